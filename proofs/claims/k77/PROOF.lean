import PyProof.Rows.All
import Wide.All
import OpenK.AllK
import Wide.FinOn
import HandS.Base
import HandS.Call
import HandS.List
import HandS.Comp
import HandS.Conv
import HandS.Text
import HandS.Words
import HandS.WordsList
import HandS.Ends
import HandS.SortInts
import HandS.Wide
import HandS.IsInst
import HandS.More
import HandS.Evl
import HandS.Defaults
import HandS.Zip
import HandS.ExcOwn
import HandS.Iter
import HandS.Style
import KE.KDictZip
import PyProof.Rows.RegZipMeets
import PyProof.ReprRoads
import HandS.Set
import HandS.Walk
import HandS.Dict
import PyProof.StrLawsIn
import PyProof.Rows.StrInSeq
import PyProof.EqAt
import PyProof.EqKinds
import PyProof.Rows.SetFrom
import PyProof.Rows.SortShellAny
import HandS.SetBool
import KE.SortData
import HandS.SetFor
import HandS.Deep
import HandS.TryOnly
import KE.KRevSl
import KE.GoesMore
import KE.GoesZip
import PyProof.CollectStr
import HandS.ExcValue
import HandS.Rev
import KE.DatumOrd
import HandS.SortKw
import KE.DataMinMax
import PySem.Challenge.RW_lastother_k77_one_color_and_colors_left
set_option Elab.async false
set_option linter.all false
set_option maxRecDepth 100000
set_option maxHeartbeats 4000000
/-! Lineups over the hand layer: what stands where, and rules of my own. -/
namespace LX
open PySem L2

/-! ### own operator rules -/
def CPowW (i j : Int) : Prop := 0 ≤ j ∧ j ≤ 1000 ∧ i.natAbs < 2 ^ 1000
theorem op_powW {X : Cx} : OpR X (binaryOp .Pow) (rI CPowW fun i j => .int (i ^ j.toNat)) := opI fun i j _ _ _ _ _ hc q => by
  refine PyProof.Rows.pow_int hc.1 ?_ q
  have h1 : Builtin.Int.intBits i ≤ 1000 := PyProof.Rows.intBits_le hc.2.2
  have h2 : (Builtin.Int.intBits i : Int) ≤ 1000 := by omega
  have h3 := Int.mul_le_mul h2 hc.2.1 hc.1 (by decide : (0:Int) ≤ 1000)
  exact Int.le_trans h3 (by decide)

/-! ### the rules that speak of the written part, with its name -/
section
variable {X : Cx} {K : PySem.W.Frag} {e o : Expr} {es : List Expr} {te to : TE} {t : TA} {pos apos cpos : Pos}
theorem kix_list (h : X.K = K := by rfl) : IxR X (rIxL K) := h ▸ ix_list
theorem kix_tup (h : X.K = K := by rfl) : IxR X (rIxT K) := h ▸ ix_tup
theorem ksl_list (h : X.K = K := by rfl) : SlR X (rSlL K) := h ▸ sl_list
def qLen (K : PySem.W.Frag) : List V → Hp → VK → Prop := fun xs H Q => ∃ p ys, xs = [.ref p] ∧ (SqL K H p ys ∨ SqT K H p ys) ∧ Q (.int ys.length) H
theorem klen (h : X.K = K := by rfl) : CallR X (.builtin "len") (qLen K) := h ▸ call_len_seq
def qList (K : PySem.W.Frag) : List V → Hp → VK → Prop := fun xs H Q => ∃ p ys, xs = [.ref p] ∧ (SqL K H p ys ∨ SqT K H p ys) ∧ ∀ l, H l = none → Q (.ref l) (upd H l (.lst ys))
theorem klist (h : X.K = K := by rfl) : CallR X (.type "list") (qList K) := h ▸ call_list_of
theorem ksorted (h : X.K = K := by rfl) : CallR X (.builtin "sorted") (rSortedI K) := h ▸ cr_sortedI
theorem kall (hc : X.calm = true) (h : X.K = K := by rfl) : CallR X (.builtin "all") (rAll K) := h ▸ cr_all hc
theorem kany (hc : X.calm = true) (h : X.K = K := by rfl) : CallR X (.builtin "any") (rAny K) := h ▸ cr_any hc
theorem ksum (hc : X.calm = true) (h : X.K = K := by rfl) : CallR X (.builtin "sum") (rSum K) := h ▸ cr_sum hc
theorem kisi (h : X.K = K := by rfl) : CallR X (.builtin "isinstance") (rIsi K) := h ▸ call_isi
theorem kisiT (h : X.K = K := by rfl) : CallR X (.builtin "isinstance") (rIsiT K) := h ▸ call_isiT
theorem kin (h : X.K = K := by rfl) : OpR X (compareOp .In) (rIn K false) := h ▸ op_in_seq
theorem knotIn (h : X.K = K := by rfl) : OpR X (compareOp .NotIn) (rIn K true) := h ▸ op_notIn_seq
theorem keqD (hu : X.A.units + 64 < cLine) (h : X.K = K := by rfl) : OpR X (compareOp .Eq) (rEqD K) := h ▸ op_eqD hu
theorem kneD (hu : X.A.units + 64 < cLine) (h : X.K = K := by rfl) : OpR X (compareOp .NotEq) (rNeD K) := h ▸ op_neD hu
theorem kpi_list {tg : Expr} (he : PE X e te) (h : X.K = K := by rfl) : PI X tg e (iList K te) := h ▸ pi_list he
theorem kbm {T id : String} {name : Str} {r : V → List V → Hp → VK → Prop} (p1 : PySem.PlainAttrs T) (p2 : PySem.Slot T name id) (p3 : typeOf (.builtin id) = pure (.type "method_descriptor")) (m : MtR X id r) (ho : PE X o to) (ha : PA X (e :: es) t)
    (q1 : attributeBase o name X.env (eval o X.env) = eval o X.env := by rfl)
    (q2 : ((backTo cpos (starEach (e :: es) X.env)).all (fun y => !y.1) && (backToKw cpos (keywordEach [] X.env)).all (fun y => y.1.isSome) && decide ((e :: es).length + ([] : List Keyword).length + (if ([] : List Keyword).isEmpty then 0 else 1) < 30)) = true := by rfl)
    (q3 : (apos.endLine == cpos.line) = true := by rfl) (q4 : starEach (e :: es) X.env = (false, eval e X.env) :: starEach es X.env := by rfl) (q5 : (backTo cpos (starEach es X.env)).any (·.1) = false := by rfl) (h : X.K = K := by rfl) :
    PE X (.Call (.Attribute o name apos) (e :: es) [] cpos) (tBM K T r to t) := h ▸ pe_bm p1 p2 p3 m ho ha q1 q2 q3 q4 q5
theorem kbm0 {T id : String} {name : Str} {r : V → List V → Hp → VK → Prop} (p1 : PySem.PlainAttrs T) (p2 : PySem.Slot T name id) (p3 : typeOf (.builtin id) = pure (.type "method_descriptor")) (m : MtR X id r) (ho : PE X o to)
    (q1 : attributeBase o name X.env (eval o X.env) = eval o X.env := by rfl) (q3 : (apos.endLine == cpos.line) = true := by rfl) (h : X.K = K := by rfl) :
    PE X (.Call (.Attribute o name apos) [] [] cpos) (tBM0 K T r to) := h ▸ pe_bm0 p1 p2 p3 m ho q1 q3
def qTru (K : PySem.W.Frag) (ta : TE) : TT := fun σ H Q => ta σ H fun x H' => ∃ k, TruV K x H' k ∧ Q k H'
theorem kpt_truth {b : Expr} {tb : TE} (hb : PE X b tb) (g : ∀ whole, isTrue b X.env whole = (do let v ← whole; standAt b.pos; holding [v] (truthy v))) (h : X.K = K := by rfl) : PT X b (qTru K tb) := h ▸ pt_truth hb g
theorem kpg_tup {k n : Nat} {u : TGs} (hc : X.calm = true) (hp : PGs X es u) (hn : (assignEach es X.env).length = n := by rfl) (hst : (assignEach es X.env).findIdx? (·.1) = none := by rfl) (h : X.K = K := by rfl) :
    PG X (.Tuple es k pos) (gTup K n u) := h ▸ pg_tup hc hp hn hst
end

/-! ### heaps -/
def Same' (p : Addr) (H H' : Hp) : Prop := ∀ b o, H b = some o → b ≠ p → H' b = some o
theorem Same'.refl (p : Addr) (H : Hp) : Same' p H H := fun _ _ h _ => h
theorem Same'.trans {p : Addr} {H H1 H2 : Hp} (a : Same' p H H1) (b : Same' p H1 H2) : Same' p H H2 := fun c o h n => b c o (a c o h n) n
theorem Same'.upd {p : Addr} {H : Hp} {o : HO} : Same' p H (upd H p o) := fun b u h n => by
  rw [upd_ne n]
  exact h
/-- a row of people: person, color (a code) -/
abbrev Row := List (Nat × Nat)
abbrev sg (c : Nat) : V := .str ⟨#[c]⟩
def oV : Option Nat → V
  | some c => sg c
  | none => .non
abbrev pr (e : Nat × Nat) : List V := [.int (e.1 : Int), sg e.2]
def TupsAt (H : Hp) : List Addr → Row → Prop
  | [], [] => True
  | t :: ts, e :: r => H t = some (.tup (pr e)) ∧ TupsAt H ts r
  | _, _ => False
theorem TupsAt.len {H : Hp} : ∀ {ts : List Addr} {r : Row}, TupsAt H ts r → ts.length = r.length
  | [], [], _ => rfl
  | _ :: ts, _ :: r, h => congrArg (· + 1) (TupsAt.len (ts := ts) (r := r) h.2)
  | [], _ :: _, h => h.elim
  | _ :: _, [], h => h.elim
theorem TupsAt.mono {H H' : Hp} : ∀ {ts : List Addr} {r : Row}, TupsAt H ts r → (∀ b xs, H b = some (.tup xs) → H' b = some (.tup xs)) → TupsAt H' ts r
  | [], [], _, _ => True.intro
  | _ :: ts, _ :: r, h, k => ⟨k _ _ h.1, TupsAt.mono (ts := ts) (r := r) h.2 k⟩
  | [], _ :: _, h, _ => h.elim
  | _ :: _, [], h, _ => h.elim
theorem TupsAt.get {H : Hp} : ∀ {ts : List Addr} {r : Row} {i : Nat} {t : Addr}, TupsAt H ts r → ts[i]? = some t → ∃ e, r[i]? = some e ∧ H t = some (.tup (pr e))
  | [], [], i, t, _, h => by simp at h
  | _ :: ts, e :: r, 0, t, h, q => by
    simp at q
    subst q
    exact ⟨e, rfl, h.1⟩
  | _ :: ts, _ :: r, i + 1, t, h, q => by
    simp at q
    obtain ⟨e, h1, h2⟩ := TupsAt.get (ts := ts) (r := r) h.2 q
    exact ⟨e, by simpa using h1, h2⟩
  | [], _ :: _, _, _, h, _ => h.elim
  | _ :: _, [], _, _, h, _ => h.elim
theorem TupsAt.app {H : Hp} : ∀ {ts us : List Addr} {r q : Row}, TupsAt H ts r → TupsAt H us q → TupsAt H (ts ++ us) (r ++ q)
  | [], _, [], _, _, h => h
  | _ :: ts, us, _ :: r, q, h, k => ⟨h.1, TupsAt.app (ts := ts) (r := r) h.2 k⟩
  | [], _, _ :: _, _, h, _ => h.elim
  | _ :: _, _, [], _, h, _ => h.elim
theorem TupsAt.take {H : Hp} : ∀ {ts : List Addr} {r : Row} (n : Nat), TupsAt H ts r → TupsAt H (ts.take n) (r.take n)
  | _, _, 0, _ => True.intro
  | [], [], _ + 1, _ => True.intro
  | _ :: ts, _ :: r, n + 1, h => ⟨h.1, TupsAt.take (ts := ts) (r := r) n h.2⟩
  | [], _ :: _, _ + 1, h => h.elim
  | _ :: _, [], _ + 1, h => h.elim
theorem TupsAt.drop {H : Hp} : ∀ {ts : List Addr} {r : Row} (n : Nat), TupsAt H ts r → TupsAt H (ts.drop n) (r.drop n)
  | _, _, 0, h => h
  | [], [], _ + 1, _ => True.intro
  | _ :: ts, _ :: r, n + 1, h => TupsAt.drop (ts := ts) (r := r) n h.2
  | [], _ :: _, _ + 1, h => h.elim
  | _ :: _, [], _ + 1, h => h.elim
theorem TupsAt.one {H : Hp} {t : Addr} {e : Nat × Nat} (h : H t = some (.tup (pr e))) : TupsAt H [t] [e] := ⟨h, True.intro⟩
def RowAt (H : Hp) (a : Addr) (r : Row) : Prop := ∃ ts : List Addr, H a = some (.lst (ts.map V.ref)) ∧ TupsAt H ts r
theorem sTups {H H' : Hp} (s : Same H H') : ∀ b xs, H b = some (.tup xs) → H' b = some (.tup xs) := fun b xs h => s b _ h
theorem RowAt.same {H H' : Hp} {a : Addr} {r : Row} (h : RowAt H a r) (s : Same H H') : RowAt H' a r :=
  let ⟨ts, h1, h2⟩ := h
  ⟨ts, s _ _ h1, h2.mono (sTups s)⟩
/-- a list at p is not the tuples' -/
theorem RowAt.same' {H H' : Hp} {a p : Addr} {r : Row} {xs : List V} (h : RowAt H a r) (s : Same' p H H') (hp : H p = some (.lst xs)) (n : a ≠ p) : RowAt H' a r :=
  let ⟨ts, h1, h2⟩ := h
  ⟨ts, s _ _ h1 n, h2.mono fun b ys e => s b _ e fun q => by
    rw [q, hp] at e
    cases e⟩
theorem sNew {H : Hp} {p : Addr} {o : HO} (h : H p = none) : Same H (upd H p o) := fun a u e => by
  rw [upd_ne (ne_of_none e h)]
  exact e
/-- a change of an object that H does not know -/
theorem sUpd {H H' : Hp} {p : Addr} {o : HO} (s : Same H H') (h : H p = none) : Same H (upd H' p o) := fun a u e => by
  rw [upd_ne (ne_of_none e h)]
  exact s a u e
theorem sTo {H H' : Hp} (p : Addr) (s : Same H H') : Same' p H H' := fun b o h _ => s b o h

/-! ### the draws' bag -/
structure Src (H : Hp) (p : Addr) : Prop where
  ex : ∃ s0 s1 s2 : Int, H p = some (.lst [.int s0, .int s1, .int s2]) ∧ s1.natAbs < 2 ^ 400
theorem Src.same {H H' : Hp} {p : Addr} (h : Src H p) (s : Same H H') : Src H' p :=
  let ⟨s0, s1, s2, h1, h2⟩ := h.ex
  ⟨s0, s1, s2, s _ _ h1, h2⟩
theorem Src.lst {H : Hp} {p : Addr} (h : Src H p) : ∃ xs, H p = some (.lst xs) :=
  let ⟨s0, s1, s2, h1, _⟩ := h.ex
  ⟨_, h1⟩

/-! ### readings, step by step -/
section
variable {σ : St} {H : Hp} {Q : VK} {v x y : V} {ta tb tc te : TE} {r r' : R2} {i : Nat} {K : PySem.W.Frag} {t u : TT} {t1 t2 : TS} {D : Ends} {g : TG} {QB : Bool → Hp → Prop} {QA : List V → Hp → Prop} {tr : TA}
theorem rd_var (e : σ[i]? = some (some v)) (q : Q v H) : tVar i σ H Q := ⟨v, e, q⟩
theorem rd_c (q : Q v H) : tC v σ H Q := q
theorem rd_op (q : ta σ H fun x H1 => tb σ H1 fun y H2 => r x y H2 Q) : tOp r ta tb σ H Q := q
theorem rd_un {r : V → Hp → VK → Prop} (q : ta σ H fun x H1 => r x H1 Q) : tUn r ta σ H Q := q
theorem rd_I0 {f : Int → Int → V} {a b : Int} (q : Q (f a b) H) : rI0 f (.int a) (.int b) H Q := ⟨a, b, rfl, rfl, q⟩
theorem rd_I {C : Int → Int → Prop} {f : Int → Int → V} {a b : Int} (c : C a b) (q : Q (f a b) H) : rI C f (.int a) (.int b) H Q := ⟨a, b, rfl, rfl, c, q⟩
theorem rd_U {f : Int → V} {a : Int} (q : Q (f a) H) : rU f (.int a) H Q := ⟨a, rfl, q⟩
theorem rd_eq (s : scal x y = true) (q : Q (.bl (decide (x = y))) H) : rEq x y H Q := ⟨s, q⟩
theorem rd_ne (s : scal x y = true) (q : Q (.bl (!decide (x = y))) H) : rNe x y H Q := ⟨s, q⟩
theorem rd_test (q : te σ H fun x H' => ∃ k, x = .bl k ∧ QB k H') : tTest te σ H QB := q
theorem rd_tB (q : te σ H fun x H' => ∃ k, x = .bl k ∧ QB k H') : tB te σ H QB := q
theorem rd_bl {b : Bool} {R : Bool → Prop} (q : R b) : ∃ k, V.bl b = .bl k ∧ R k := ⟨b, rfl, q⟩
theorem rd_dec {p A B : Prop} [Decidable p] (h1 : p → A) (h2 : ¬ p → B) : if decide p = true then A else B := by
  by_cases h : p
  · rw [decide_eq_true h]
    exact iteT (h1 h)
  · rw [decide_eq_false h]
    exact iteF (h2 h)
theorem rd_ndec {p A B : Prop} [Decidable p] (h1 : ¬ p → A) (h2 : p → B) : if (!decide p) = true then A else B := by
  by_cases h : p
  · rw [decide_eq_true h]
    exact iteF (h2 h)
  · rw [decide_eq_false h]
    exact iteT (h1 h)
theorem rd_nt {A B : Prop} (h : B) : if (!true) = true then A else B := iteF h
theorem rd_nf {A B : Prop} (h : A) : if (!false) = true then A else B := iteT h
theorem rd_yes {p A B : Prop} [Decidable p] (h : p) (q : A) : if decide p = true then A else B := rd_dec (fun _ => q) fun n => absurd h n
theorem rd_no {p A B : Prop} [Decidable p] (h : ¬ p) (q : B) : if decide p = true then A else B := rd_dec (fun n => absurd n h) fun _ => q
theorem rd_2i {a b : Int} {R : Int → Int → Prop} (q : R a b) : ∃ i j, [V.int a, V.int b] = [V.int i, V.int j] ∧ R i j := ⟨a, b, rfl, q⟩
theorem rd_chain (q : ta σ H fun x H1 => tb σ H1 fun y H2 => r x y H2 fun z H3 => ∃ k, z = .bl k ∧ (if k = true then tc σ H3 fun w' H4 => r' y w' H4 Q else Q (.bl false) H3)) : tChain r r' ta tb tc σ H Q := q
theorem rd_and (q : t σ H fun c H1 => if c = true then u σ H1 QB else QB false H1) : tAnd t u σ H QB := q
theorem rd_or (q : t σ H fun c H1 => if c = true then QB true H1 else u σ H1 QB) : tOr t u σ H QB := q
theorem rd_not (q : t σ H fun c H1 => QB (!c) H1) : tNot t σ H QB := q
theorem rd_andV (q : ta σ H fun x H1 => ∃ c, x = .bl c ∧ if c = true then tb σ H1 Q else Q (.bl false) H1) : tAndV ta tb σ H Q := q
theorem rd_orV (q : ta σ H fun x H1 => ∃ c, x = .bl c ∧ if c = true then Q (.bl true) H1 else tb σ H1 Q) : tOrV ta tb σ H Q := q
theorem rd_notV (q : ta σ H fun x H1 => ∃ c, x = .bl c ∧ Q (.bl (!c)) H1) : tNotV ta σ H Q := q
theorem rd_ifE (q : t σ H fun c H1 => if c = true then ta σ H1 Q else tb σ H1 Q) : tIf t ta tb σ H Q := q
theorem rd_next (q : D.nx σ H) : tNext D σ H := q
theorem rd_seq (q : t1 { D with nx := t2 D } σ H) : tSeq t1 t2 D σ H := q
theorem rd_drop (q : te σ H fun _ H1 => D.nx σ H1) : tDrop te D σ H := q
theorem rd_ret (q : te σ H D.rt) : tRet te D σ H := q
theorem rd_ifS (q : t σ H fun b H1 => if b = true then t1 D σ H1 else t2 D σ H1) : tIfS t t1 t2 D σ H := q
theorem rd_asg (q : te σ H fun x H1 => g x σ H1 D.nx) : tAsg te g D σ H := q
theorem rd_name {R : St → Hp → Prop} (q : R (σ.set i (some v)) H) : gName i v σ H R := q
theorem rd_par {j : Nat} (q : tr σ H fun vs H1 => ∃ v w, vs = [v, w] ∧ D.nx ((σ.set i (some v)).set j (some w)) H1) : tPar i j tr D σ H := q
theorem rd_two {v w : V} {R : V → V → Prop} (q : R v w) : ∃ a b, [v, w] = [a, b] ∧ R a b := ⟨v, w, rfl, q⟩
theorem rd_nil (q : QA [] H) : tNil σ H QA := q
theorem rd_cons (q : ta σ H fun x H1 => tr σ H1 fun xs H2 => QA (x :: xs) H2) : tCons ta tr σ H QA := q
theorem rd_tup (q : tr σ H fun xs H1 => xs.length ≤ sizeLine ∧ ∀ p, H1 p = none → Q (.ref p) (upd H1 p (.tup xs))) : tTup tr σ H Q := q
theorem rd_lst (q : tr σ H fun xs H1 => xs.length ≤ sizeLine ∧ ∀ p, H1 p = none → Q (.ref p) (upd H1 p (.lst xs))) : tLst tr σ H Q := q
theorem rd_cb {r : List V → Hp → VK → Prop} (q : tr σ H fun vs H1 => r vs H1 Q) : tCB r tr σ H Q := q
theorem rd_call {sp : Sp} {dvs : List V} {E : XK} (q : tr σ H fun vs H1 => sp (vs ++ dvs) H1 Q E) : tCall sp dvs E tr σ H Q := q
theorem rd_ixL {p : Addr} {xs : List V} {j : Int} (h : H p = some (.lst xs)) (a : atI xs j = some v) (q : Q v H) : rIxL K (.ref p) (.int j) H Q := ⟨p, xs, j, v, rfl, rfl, SqL.of h, a, q⟩
theorem rd_ixT {p : Addr} {xs : List V} {j : Int} (h : H p = some (.tup xs)) (a : atI xs j = some v) (q : Q v H) : rIxT K (.ref p) (.int j) H Q := ⟨p, xs, j, v, rfl, rfl, SqT.of h, a, q⟩
theorem rd_sub {to ti : TE} {s : TSet} {R : St → Hp → Prop} (q : to σ H fun o H1 => ti σ H1 fun i H2 => s o i v H2 fun H3 => R σ H3) : gSub to ti s v σ H R := q
theorem rd_setL {p : Addr} {xs : List V} {k : Int} {j : Nat} {R : Hp → Prop} (h : H p = some (.lst xs)) (e : ixN xs.length k = some j) (q : R (upd H p (.lst (xs.set j v)))) : rSetL (.ref p) (.int k) v H R := ⟨p, xs, k, j, rfl, rfl, h, e, q⟩
theorem rd_len {p : Addr} {xs : List V} (h : H p = some (.lst xs)) (q : Q (.int xs.length) H) : qLen K [.ref p] H Q := ⟨p, xs, rfl, Or.inl (SqL.of h), q⟩
theorem rd_sl {tl th : TO} {r : V → Option Int → Option Int → Hp → VK → Prop} (q : te σ H fun x H1 => tl σ H1 fun l H2 => th σ H2 fun u H3 => r x l u H3 Q) : tSl r te tl th σ H Q := q
theorem rd_nopart {R : Option Int → Hp → Prop} (q : R none H) : tNoPart σ H R := q
theorem rd_part {R : Option Int → Hp → Prop} (q : te σ H fun x H1 => ∃ i, x = .int i ∧ R (some i) H1) : tPart te σ H R := q
theorem rd_int {j : Int} {R : Int → Prop} (q : R j) : ∃ i, V.int j = .int i ∧ R i := ⟨j, rfl, q⟩
theorem rd_slL {p : Addr} {xs : List V} {l u : Option Int} (h : H p = some (.lst xs)) (q : ∀ b, H b = none → Q (.ref b) (upd H b (.lst (cutV xs l u)))) : rSlL K (.ref p) l u H Q := ⟨p, xs, rfl, SqL.of h, q⟩
theorem rd_cat {p b : Addr} {xs ys : List V} (h : H p = some (.lst xs)) (h2 : H b = some (.lst ys)) (z : xs.length + ys.length ≤ sizeLine) (q : ∀ c, H c = none → Q (.ref c) (upd H c (.lst (xs ++ ys)))) : rCat (.ref p) (.ref b) H Q := ⟨p, b, xs, ys, rfl, rfl, h, h2, z, q⟩
theorem rd_isN (q : Q (.bl (decide (x = .non))) H) : (fun x y H Q => y = V.non ∧ Q (.bl (decide (x = .non))) H : R2) x .non H Q := ⟨rfl, q⟩
theorem rd_bm {T : String} {r : V → List V → Hp → VK → Prop} (q : te σ H fun x H1 => tyV K T x H1 ∧ tr σ H1 fun xs H2 => r x xs H2 Q) : tBM K T r te tr σ H Q := q
theorem rd_bm0 {T : String} {r : V → List V → Hp → VK → Prop} (q : te σ H fun x H1 => tyV K T x H1 ∧ r x [] H1 Q) : tBM0 K T r te σ H Q := q
theorem rd_for {wi : TI} (q : wi σ H fun J H1 => ∃ W : Nat → Nat → St → Hp → Prop, (∃ m, W 0 m σ H1) ∧ ∀ i m σ H, W i m σ H →
  (J.stop i H ∧ D.nx σ H) ∨ (J.go i H ∧ ∃ N : St → Hp → Prop, (∀ σ' H', N σ' H' → ∃ m', m' < m ∧ W (i + 1) m' σ' H') ∧ ∀ x H', J.yld i H x H' → g x σ H' fun σ2 H2 => t1 { D with nx := N, ct := N, bk := D.nx } σ2 H2)) : tFor wi g t1 D σ H := q
theorem rd_iList {tl : TE} {R : It → Hp → Prop} (q : tl σ H fun x H1 => ∃ a, x = .ref a ∧ (∃ xs, SqL K H1 a xs) ∧ R (Itl K a) H1) : iList K tl σ H R := q
theorem rd_gtup {n : Nat} {s : TGs} {p : Addr} {xs : List V} {R : St → Hp → Prop} (h : H p = some (.tup xs)) (z : xs.length = n) (q : s xs σ H R) : gTup K n s (.ref p) σ H R := ⟨p, xs, rfl, SqT.of h, z, q⟩
theorem rd_gcons {s : TG} {w : TGs} {vs : List V} {R : St → Hp → Prop} (q : s v σ H fun σ' H' => w vs σ' H' R) : gCons s w (v :: vs) σ H R := ⟨v, vs, rfl, q⟩
theorem rd_gnil {R : St → Hp → Prop} (q : R σ H) : gNil [] σ H R := ⟨rfl, q⟩
theorem rd_sl_len {n : Nat} (h : n ≤ 1000) : n ≤ sizeLine := Nat.le_of_lt (small1000 h)
end

section
variable {σ : St} {H : Hp} {Q : VK} {v x y : V} {K : PySem.W.Frag} {ta te : TE} {D : Ends} {g : TG} {tb : TS}
theorem rd_typ {n : String} (h : zTyV v H = some n) (q : Q (.ty n) H) : r1 kTyp [v] H Q := ⟨n, h, q⟩
theorem rd_2ty {m n : String} {R : String → String → Prop} (q : R m n) : ∃ a b, V.ty m = V.ty a ∧ V.ty n = V.ty b ∧ R a b := ⟨m, n, rfl, rfl, q⟩
theorem rd_NT {m n : String} (q : Q (.bl (!decide (m = n))) H) : rNT (.ty m) (.ty n) H Q := ⟨m, n, rfl, rfl, q⟩
theorem rd_2s {m n : Str} {R : Str → Str → Prop} (q : R m n) : ∃ a b, V.str m = V.str a ∧ V.str n = V.str b ∧ R a b := ⟨m, n, rfl, rfl, q⟩
theorem rd_lenS {m : Str} {R : Str → Prop} (q : R m) : ∃ a, [V.str m] = [V.str a] ∧ R a := ⟨m, rfl, q⟩
theorem rd_lenT {p : Addr} {xs : List V} (h : H p = some (.tup xs)) (q : Q (.int xs.length) H) : qLen K [.ref p] H Q := ⟨p, xs, rfl, Or.inr (SqT.of h), q⟩
theorem rd_isi {t u : Value} {c : V} {b : Bool} (h1 : ClsV c u) (h2 : TyX K H v t) (h3 : PySem.W.kitOne K t u = some b) (q : Q (.bl b) H) : rIsi K [v, c] H Q := ⟨v, c, t, u, b, rfl, h1, h2, h3, q⟩
theorem rd_listOf {p : Addr} {xs : List V} (h : H p = some (.lst xs)) (q : ∀ l, H l = none → Q (.ref l) (upd H l (.lst xs))) : qList K [.ref p] H Q := ⟨p, xs, rfl, Or.inl (SqL.of h), q⟩
theorem rd_rep {p : Addr} {xs : List V} {k : Int} (h : H p = some (.lst xs)) (h1 : 0 ≤ k) (h2 : k < 2 ^ 62) (z : xs.length * k.toNat ≤ sizeLine) (q : rRep (.ref p) (.int k) H Q) : rRep (.ref p) (.int k) H Q := q
/-- for i, x in enumerate(xs): every turn has a new tuple -/
theorem for_enum {a : Addr} {xs : List V} {σ : St} {H : Hp} (Pv : Nat → St → Hp → Prop) (h0 : Pv 0 σ H) (hl : ∀ i σ H, i ≤ xs.length → Pv i σ H → SqL K H a xs)
    (hs : ∀ i x (T : Addr) σ H, xs[i]? = some x → Pv i σ H → H T = none → g (.ref T) σ (upd H T (.tup [.int (i : Nat), x])) fun σ2 H2 => tb { D with nx := Pv (i + 1), ct := Pv (i + 1), bk := D.nx } σ2 H2) (hd : ∀ σ H, Pv xs.length σ H → D.nx σ H) :
    ∃ W : Nat → Nat → St → Hp → Prop, (∃ m, W 0 m σ H) ∧ ∀ i m σ H, W i m σ H →
      ((Ite K a).stop i H ∧ D.nx σ H) ∨ ((Ite K a).go i H ∧ ∃ N : St → Hp → Prop, (∀ σ' H', N σ' H' → ∃ m', m' < m ∧ W (i + 1) m' σ' H') ∧ ∀ x H', (Ite K a).yld i H x H' → g x σ H' fun σ2 H2 => tb { D with nx := N, ct := N, bk := D.nx } σ2 H2) := by
  refine ⟨fun i m σ H => m = xs.length - i ∧ i ≤ xs.length ∧ Pv i σ H, ⟨_, rfl, Nat.zero_le _, h0⟩, fun i m σ H hw => ?_⟩
  obtain ⟨rfl, hi, p⟩ := hw
  have q := hl i σ H hi p
  by_cases hlt : i < xs.length
  · have hx : xs[i]? = some xs[i] := List.getElem?_eq_getElem hlt
    refine Or.inr ⟨⟨xs, xs[i], q, hx⟩, Pv (i + 1), fun σ' H' p' => ⟨xs.length - (i + 1), by omega, rfl, hlt, p'⟩, fun x H' ⟨T, z, e1, e2, e3, e4⟩ => ?_⟩
    subst e1 e3
    have ez : z = xs[i] := Option.some.inj ((e4 xs q).symm.trans hx)
    subst ez
    exact hs i _ T σ H hx p e2
  · have e : i = xs.length := by omega
    subst e
    exact Or.inl ⟨⟨xs, q, Nat.le_refl _⟩, hd σ H p⟩
end

/-! ### rows: the first other color, the colors by person, a call -/
def fo (r : Row) (c : Nat) : Option Nat := (r.find? fun e => e.2 != c).map (·.2)
def colOf (r : Row) (q : Nat) : Nat := ((r.find? fun e => e.1 == q).map (·.2)).getD 0
theorem fo_nil (c : Nat) : fo [] c = none := rfl
theorem fo_yes {e : Nat × Nat} {r : Row} {c : Nat} (h : e.2 ≠ c) : fo (e :: r) c = some e.2 := by
  unfold fo
  rw [List.find?_cons_of_pos (by simpa using h)]
  rfl
theorem fo_no {e : Nat × Nat} {r : Row} {c : Nat} (h : e.2 = c) : fo (e :: r) c = fo r c := by
  unfold fo
  rw [List.find?_cons_of_neg (by simpa using h)]
theorem drop_of {α : Type} {l : List α} {i : Nat} {x : α} (h : l[i]? = some x) : l.drop i = x :: l.drop (i + 1) := by
  obtain ⟨h1, h2⟩ := List.getElem?_eq_some_iff.mp h
  rw [← h2]
  exact List.drop_eq_getElem_cons h1
structure Vr (r : Row) : Prop where
  n1 : 1 ≤ r.length
  n2 : r.length ≤ 60
  col : ∀ e ∈ r, 97 ≤ e.2 ∧ e.2 ≤ 122
  perm : (r.map (·.1)).Perm (List.range r.length)
theorem Vr.lt {r : Row} (h : Vr r) {e : Nat × Nat} (he : e ∈ r) : e.1 < r.length := by
  have := h.perm.mem_iff.mp (List.mem_map_of_mem (f := (·.1)) he)
  exact List.mem_range.mp this
theorem Vr.nodup {r : Row} (h : Vr r) : (r.map (·.1)).Nodup := h.perm.nodup_iff.mpr List.nodup_range
theorem Vr.has {r : Row} (h : Vr r) {q : Nat} (hq : q < r.length) : ∃ e ∈ r, e.1 = q := by
  have := h.perm.mem_iff.mpr (List.mem_range.mpr hq)
  obtain ⟨e, h1, h2⟩ := List.mem_map.mp this
  exact ⟨e, h1, h2⟩
/-- the list that colors_by_person fills -/
def fillC (l : List V) (r : Row) : List V := r.foldl (fun l e => l.set e.1 (sg e.2)) l
theorem fillC_len (r : Row) : ∀ l : List V, (fillC l r).length = l.length := by
  induction r with
  | nil => intro l; rfl
  | cons e r ih =>
    intro l
    show (fillC (l.set e.1 (sg e.2)) r).length = _
    rw [ih, List.length_set]
theorem fillC_no {q : Nat} : ∀ (r : Row) (l : List V), (∀ e ∈ r, e.1 ≠ q) → (fillC l r)[q]? = l[q]? := by
  intro r
  induction r with
  | nil => intro l _; rfl
  | cons e r ih =>
    intro l h
    show (fillC (l.set e.1 (sg e.2)) r)[q]? = _
    rw [ih _ fun x hx => h x (List.mem_cons_of_mem _ hx), List.getElem?_set_ne (h e List.mem_cons_self)]
theorem fillC_at {q : Nat} : ∀ (r : Row) (l : List V), (r.map (·.1)).Nodup → q < l.length → (∃ e ∈ r, e.1 = q) → (fillC l r)[q]? = some (sg (colOf r q)) := by
  intro r
  induction r with
  | nil =>
    intro l _ _ h
    obtain ⟨e, he, _⟩ := h
    cases he
  | cons e r ih =>
    intro l nd hl h
    have nd' := List.nodup_cons.mp (show (e.1 :: r.map (·.1)).Nodup from nd)
    show (fillC (l.set e.1 (sg e.2)) r)[q]? = _
    by_cases c : e.1 = q
    · rw [fillC_no r _ fun x hx z => nd'.1 (by rw [c, ← z]; exact List.mem_map_of_mem (f := (·.1)) hx), c, List.getElem?_set_self hl]
      unfold colOf
      rw [List.find?_cons_of_pos (by simpa using c)]
      rfl
    · rw [ih _ nd'.2 (by rw [List.length_set]; exact hl) ?_]
      · unfold colOf
        rw [List.find?_cons_of_neg (by simpa using c)]
      · obtain ⟨x, hx, hq⟩ := h
        rcases List.mem_cons.mp hx with z | z
        · exact absurd (z ▸ hq) c
        · exact ⟨x, z, hq⟩
def byPerson (r : Row) : List V := (List.range r.length).map fun q => sg (colOf r q)
theorem fillC_is {r : Row} (h : Vr r) {x : V} : fillC (List.replicate r.length x) r = byPerson r := by
  apply List.ext_getElem?
  intro q
  unfold byPerson
  rw [List.getElem?_map]
  by_cases c : q < r.length
  · rw [fillC_at r _ h.nodup (by rw [List.length_replicate]; exact c) (h.has c), List.getElem?_range c]
    rfl
  · rw [List.getElem?_eq_none (by rw [fillC_len, List.length_replicate]; omega), List.getElem?_eq_none (by rw [List.length_range]; omega)]
    rfl
def app (r : Row) (p : Nat) : Row := (p, (fo r (colOf r p)).getD (colOf r p)) :: r.filter fun e => e.1 != p
theorem flat_rep {α : Type} (x : α) : ∀ n : Nat, (List.replicate n [x]).flatten = List.replicate n x
  | 0 => rfl
  | n + 1 => by
    rw [List.replicate_succ, List.flatten_cons, flat_rep x n]
    rfl
theorem fillC_snoc (l : List V) (r : Row) (e : Nat × Nat) : fillC l (r ++ [e]) = (fillC l r).set e.1 (sg e.2) := by
  unfold fillC
  rw [List.foldl_append]
  rfl
theorem take_of {α : Type} {l : List α} {i : Nat} {x : α} (h : l[i]? = some x) : l.take (i + 1) = l.take i ++ [x] := by
  rw [List.take_add_one, h]
  rfl
theorem ixN_nat {n j : Nat} (h : j < n) : ixN n (j : Int) = some j := by
  unfold ixN
  rw [if_pos (by omega), if_pos (by omega)]
  simp
theorem sz60 {n : Nat} (h : n ≤ 60) : n ≤ sizeLine := Nat.le_trans h (by decide)
theorem getElem?_mem {α : Type} {l : List α} {i : Nat} {x : α} (h : l[i]? = some x) : x ∈ l := List.mem_of_getElem? h
/-! ### data -/
theorem dp_ints {K : PySem.W.Frag} {H : Hp} : ∀ ns : List Int, DpAll K H (ns.map V.int) (ns.map PyData.int)
  | [] => .nil
  | n :: ns => .cons (.int n) (dp_ints ns)
theorem lay_ints : ∀ ns : List Int, PyData.canLayAll0 (ns.map PyData.int) = true
  | [] => by simp only [List.map_nil, PyData.canLayAll0]
  | n :: ns => by
    simp only [List.map_cons, PyData.canLayAll0, PyData.canLay0, Bool.true_and]
    exact lay_ints ns
theorem dep_ints : ∀ ns : List Int, PyData.depthAll (ns.map PyData.int) = 0
  | [] => by simp only [List.map_nil, PyData.depthAll]
  | n :: ns => by
    simp only [List.map_cons, PyData.depthAll, PyData.depth]
    rw [dep_ints ns]
    rfl
abbrev dI (ns : List Int) : PyData := .list (ns.map PyData.int)
theorem shp_ints (ns : List Int) : SeqAt.shaped (dI ns) = true := by
  refine Bool.and_eq_true_iff.mpr ⟨?_, decide_eq_true ?_⟩
  · simp only [PyData.canLay0]
    exact lay_ints ns
  · simp only [PyData.depth]
    rw [dep_ints]
    decide
/-- a row as data -/
abbrev dE (e : Nat × Nat) : PyData := .tuple [.int (e.1 : Int), .str ⟨#[e.2]⟩]
abbrev dR (r : Row) : PyData := .list (r.map dE)
theorem dp_tups {K : PySem.W.Frag} {H : Hp} : ∀ {ts : List Addr} {r : Row}, TupsAt H ts r → DpAll K H (ts.map V.ref) (r.map dE)
  | [], [], _ => .nil
  | _ :: ts, e :: r, h => .cons (.tup (SqT.of h.1) (.cons (.int _) (.cons (.str _) .nil))) (dp_tups (ts := ts) (r := r) h.2)
  | [], _ :: _, h => h.elim
  | _ :: _, [], h => h.elim
theorem RowAt.dp {K : PySem.W.Frag} {H : Hp} {a : Addr} {r : Row} (h : RowAt H a r) : Dp K H (.ref a) (dR r) :=
  let ⟨_, h1, h2⟩ := h
  .lst (SqL.of h1) (dp_tups h2)
def Cok (r : Row) : Prop := ∀ e ∈ r, 97 ≤ e.2 ∧ e.2 ≤ 122
theorem str_ok {c : Nat} (h : c ≤ 122) : PyData.strOk ⟨#[c]⟩ = true := by
  show (#[c] : Array Nat).all (· < 0x110000) = true
  simp
  omega
theorem lay_row : ∀ r : Row, Cok r → PyData.canLayAll0 (r.map dE) = true ∧ PyData.depthAll (r.map dE) ≤ 1
  | [], _ => by
    simp only [List.map_nil, PyData.canLayAll0, PyData.depthAll]
    exact ⟨trivial, Nat.zero_le _⟩
  | e :: r, h => by
    obtain ⟨h1, h2⟩ := lay_row r fun x hx => h x (List.mem_cons_of_mem _ hx)
    simp only [List.map_cons, PyData.canLayAll0, PyData.canLay0, PyData.depthAll, PyData.depth, Bool.true_and, Bool.and_true]
    rw [h1, str_ok (h e List.mem_cons_self).2]
    refine ⟨rfl, ?_⟩
    omega
theorem shp_row (r : Row) (h : Cok r) : SeqAt.shaped (dR r) = true := by
  obtain ⟨h1, h2⟩ := lay_row r h
  refine Bool.and_eq_true_iff.mpr ⟨?_, decide_eq_true ?_⟩
  · simp only [PyData.canLay0]
    exact h1
  · simp only [PyData.depth]
    omega
theorem shp_ent (e : Nat × Nat) (h : e.2 ≤ 122) : SeqAt.shaped (dE e) = true := by
  refine Bool.and_eq_true_iff.mpr ⟨?_, decide_eq_true ?_⟩
  · simp only [PyData.canLay0, PyData.canLayAll0, Bool.true_and, Bool.and_true]
    exact str_ok h
  · simp only [PyData.depth, PyData.depthAll]
    decide
section
variable {σ : St} {H : Hp} {Q : VK} {v x y : V} {K : PySem.W.Frag} {ta te : TE} {D : Ends} {g : TG} {tb : TS}
theorem rd_eqD {d : PyData} (h1 : Dp K H x d) (h2 : Dp K H y d) (s : SeqAt.shaped d = true) (q : Q (.bl true) H) : rEqD K x y H Q :=
  ⟨d, d, h1, h2, s, s, by rw [SeqAt.eqv_refl d (SeqAt.canLay_of_shaped s)]; exact q⟩
theorem rd_neD {d : PyData} (h1 : Dp K H x d) (h2 : Dp K H y d) (s : SeqAt.shaped d = true) (q : Q (.bl false) H) : rNeD K x y H Q :=
  ⟨d, d, h1, h2, s, s, by rw [SeqAt.eqv_refl d (SeqAt.canLay_of_shaped s)]; exact q⟩
theorem rd_eqD2 {d e : PyData} (h1 : Dp K H x d) (h2 : Dp K H y e) (s : SeqAt.shaped d = true) (s2 : SeqAt.shaped e = true) {b : Bool} (hb : PyData.eqv d e = b) (q : Q (.bl b) H) : rEqD K x y H Q :=
  ⟨d, e, h1, h2, s, s2, by rw [hb]; exact q⟩
theorem rd_neD2 {d e : PyData} (h1 : Dp K H x d) (h2 : Dp K H y e) (s : SeqAt.shaped d = true) (s2 : SeqAt.shaped e = true) {b : Bool} (hb : PyData.eqv d e = b) (q : Q (.bl (!b)) H) : rNeD K x y H Q :=
  ⟨d, e, h1, h2, s, s2, by rw [hb]; exact q⟩
theorem rd_tyes {R : Bool → Hp → Prop} (q : R true H) : tYes σ H R := q
theorem rd_lstRg {tr : St → Hp → (Int → Int → Hp → Prop) → Prop} (q : tr σ H fun a b H1 => RgOk a b ∧ ∀ q, H1 q = none → Q (.ref q) (upd H1 q (.lst (rgV a b)))) : tLstRg tr σ H Q := q
theorem rd_rg1 {R : Int → Int → Hp → Prop} (q : ta σ H fun x H1 => ∃ n, x = .int n ∧ R 0 n H1) : tRg1 ta σ H R := q
theorem rd_tyL {p : Addr} {xs : List V} (h : H p = some (.lst xs)) (q : Q (.ty "list") H) : r1 kTyp [.ref p] H Q :=
  ⟨"list", by show (match H p with | some (.lst _) => _ | some (.tup _) => _ | _ => _) = _; rw [h], q⟩
theorem rd_tyT {p : Addr} {xs : List V} (h : H p = some (.tup xs)) (q : Q (.ty "tuple") H) : r1 kTyp [.ref p] H Q :=
  ⟨"tuple", by show (match H p with | some (.lst _) => _ | some (.tup _) => _ | _ => _) = _; rw [h], q⟩
end
abbrev pI (r : Row) : List Int := r.map fun e => (e.1 : Int)
theorem pI_map (r : Row) : (pI r).map V.int = r.map fun e => V.int (e.1 : Int) := by
  show (r.map _).map _ = _
  rw [List.map_map]
  rfl
abbrev rI' (n : Nat) : List Int := (List.range n).map fun i : Nat => (i : Int)
theorem rgV_is (n : Nat) : rgV 0 (n : Int) = (rI' n).map V.int := by
  unfold rgV
  rw [List.map_map, show ((n : Int) - 0).toNat = n by omega]
  apply List.map_congr_left
  intro i _
  show V.int (0 + (i : Int)) = V.int (i : Int)
  rw [Int.zero_add]
theorem sorted_is {r : Row} (h : Vr r) {ns : List Int} (hp : ns.Perm (pI r)) (hs : ns.Pairwise (· ≤ ·)) : ns = rI' r.length := by
  have h1 : (pI r).Perm (rI' r.length) := by
    have q := h.perm.map fun i : Nat => (i : Int)
    rw [List.map_map] at q
    exact q
  have h2 : (rI' r.length).Pairwise (· ≤ ·) := by
    refine List.pairwise_map.mpr (List.pairwise_lt_range.imp fun {a b} k => ?_)
    omega
  exact List.Perm.eq_of_pairwise (fun a b _ _ x y => Int.le_antisymm x y) hs h2 (hp.trans h1)
theorem lt60 {n : Nat} (h : n ≤ 60) : n < sizeLine := Nat.lt_of_le_of_lt h (by decide)
abbrev vN (p : Nat) : V := .int (p : Int)
/-! ### a call keeps a row a row -/
theorem byPerson_at {r : Row} {p : Nat} (h : p < r.length) : (byPerson r)[p]? = some (sg (colOf r p)) := by
  unfold byPerson
  rw [List.getElem?_map, List.getElem?_range h]
  rfl
def takenEach (r : Row) : List V := (List.range r.length).map fun q => oV (fo r (colOf r q))
theorem takenEach_at {r : Row} {p : Nat} (h : p < r.length) : (takenEach r)[p]? = some (oV (fo r (colOf r p))) := by
  unfold takenEach
  rw [List.getElem?_map, List.getElem?_range h]
  rfl
theorem fo_mem {r : Row} {c d : Nat} (h : fo r c = some d) : ∃ e ∈ r, e.2 = d ∧ d ≠ c := by
  unfold fo at h
  obtain ⟨e, h1, h2⟩ := Option.map_eq_some_iff.mp h
  have h3 := List.find?_some h1
  refine ⟨e, List.mem_of_find?_eq_some h1, h2, ?_⟩
  rw [← h2]
  simpa using h3
theorem colOf_mem {r : Row} {p : Nat} (h : ∃ e ∈ r, e.1 = p) : (p, colOf r p) ∈ r := by
  unfold colOf
  cases q : r.find? fun e => e.1 == p with
  | none =>
    obtain ⟨e, h1, h2⟩ := h
    have := List.find?_eq_none.mp q e h1
    exact absurd (by simpa using h2) this
  | some e =>
    have h1 := List.mem_of_find?_eq_some q
    have h2 : e.1 = p := by simpa using List.find?_some q
    show (p, e.2) ∈ r
    rw [← h2]
    exact h1
theorem perm_out {p : Nat} : ∀ {r : Row}, (r.map (·.1)).Nodup → (∃ e ∈ r, e.1 = p) → (p :: (r.filter fun e => e.1 != p).map (·.1)).Perm (r.map (·.1))
  | [], _, h => by
    obtain ⟨e, he, _⟩ := h
    cases he
  | e :: r, nd, h => by
    have nd' := List.nodup_cons.mp (show (e.1 :: r.map (·.1)).Nodup from nd)
    by_cases c : e.1 = p
    · rw [List.filter_cons_of_neg (by simpa using c)]
      have e2 : (r.filter fun e => e.1 != p) = r := by
        apply List.filter_eq_self.mpr
        intro x hx
        simp only [bne_iff_ne, ne_eq]
        intro z
        exact nd'.1 (by rw [c, ← z]; exact List.mem_map_of_mem (f := (·.1)) hx)
      rw [e2, List.map_cons, c]
    · rw [List.filter_cons_of_pos (by simpa using c), List.map_cons, List.map_cons]
      have h' : ∃ e ∈ r, e.1 = p := by
        obtain ⟨x, hx, hq⟩ := h
        rcases List.mem_cons.mp hx with z | z
        · exact absurd (z ▸ hq) c
        · exact ⟨x, z, hq⟩
      exact (List.Perm.swap _ _ _).trans ((perm_out nd'.2 h').cons _)
theorem app_perm {r : Row} (h : Vr r) {p : Nat} (hp : p < r.length) : ((app r p).map (·.1)).Perm (r.map (·.1)) := perm_out h.nodup (h.has hp)
theorem app_len {r : Row} (h : Vr r) {p : Nat} (hp : p < r.length) : (app r p).length = r.length := by
  have := (app_perm h hp).length_eq
  rw [List.length_map, List.length_map] at this
  exact this
theorem Vr.colOf {r : Row} (h : Vr r) {p : Nat} (hp : p < r.length) : 97 ≤ LX.colOf r p ∧ LX.colOf r p ≤ 122 := h.col _ (colOf_mem (h.has hp))
theorem Vr.fo {r : Row} (h : Vr r) {c d : Nat} (e : LX.fo r c = some d) : 97 ≤ d ∧ d ≤ 122 := by
  obtain ⟨x, h1, h2, _⟩ := fo_mem e
  rw [← h2]
  exact h.col x h1
theorem Vr.app {r : Row} (h : Vr r) {p : Nat} (hp : p < r.length) : Vr (LX.app r p) where
  n1 := by rw [app_len h hp]; exact h.n1
  n2 := by rw [app_len h hp]; exact h.n2
  col := by
    intro e he
    rcases List.mem_cons.mp he with z | z
    · rw [z]
      show 97 ≤ (LX.fo r (LX.colOf r p)).getD (LX.colOf r p) ∧ (LX.fo r (LX.colOf r p)).getD (LX.colOf r p) ≤ 122
      cases q : LX.fo r (LX.colOf r p) with
      | none => exact h.colOf hp
      | some d => exact h.fo q
    · exact h.col e (List.mem_filter.mp z).1
  perm := by rw [app_len h hp]; exact (app_perm h hp).trans h.perm
/-- calls one after the other -/
def apps (r : Row) (cs : List Nat) : Row := cs.foldl app r
theorem apps_snoc (r : Row) (cs : List Nat) (p : Nat) : apps r (cs ++ [p]) = app (apps r cs) p := by
  unfold apps
  rw [List.foldl_append]
  rfl
theorem apps_len {r : Row} (h : Vr r) : ∀ (cs : List Nat), (∀ p ∈ cs, p < r.length) → Vr (apps r cs) ∧ (apps r cs).length = r.length := by
  intro cs
  induction cs generalizing r with
  | nil => intro _; exact ⟨h, rfl⟩
  | cons p cs ih =>
    intro hc
    have hp := hc p List.mem_cons_self
    have := ih (h.app hp) fun q hq => by
      rw [app_len h hp]
      exact hc q (List.mem_cons_of_mem _ hq)
    exact ⟨this.1, this.2.trans (app_len h hp)⟩
theorem oV_none {o : Option Nat} : decide (oV o = V.non) = o.isNone := by
  cases o with
  | none => rfl
  | some c => rfl
theorem sz60' {n : Nat} (h : n ≤ 100) : n ≤ sizeLine := Nat.le_trans h (by decide)
/-! ### the script and its cells -/
theorem cut_ints (ns : List Int) (lo hi : Option Int) : ∃ ms : List Int, cutV (ns.map V.int) lo hi = ms.map V.int ∧ ms.length ≤ ns.length := by
  unfold cutV
  rw [← List.map_drop, ← List.map_take]
  refine ⟨_, rfl, ?_⟩
  rw [List.length_take, List.length_drop]
  omega
theorem eqv_nil (ns : List Int) : PyData.eqv (dI ns) (dI []) = decide (ns = []) := by
  cases ns with
  | nil => rfl
  | cons n ns => simp [PyData.eqv, PyData.eqvAll]
theorem rd_cut {t u : TS} {D : Ends} {σ : St} {H : Hp} (M : St → Hp → Prop) (h : t { D with nx := M } σ H) (k : ∀ σ' H', M σ' H' → u D σ' H') : Evl.tCut t u D σ H := ⟨M, h, k⟩
theorem rd_bool {H : Hp} {b : Bool} {R : Int → Prop} {Q : VK} (q : Q (.int (if b then 1 else 0)) H) : (∃ i, [V.bl b] = [V.int i] ∧ Q (.int i) H) ∨ ∃ k, [V.bl b] = [V.bl k] ∧ Q (.int (if k then 1 else 0)) H := Or.inr ⟨b, rfl, q⟩
theorem Same'.of {p : Addr} {H H' : Hp} (h : ∀ b, b ≠ p → H' b = H b) : Same' p H H' := fun b o e n => by rw [h b n]; exact e
theorem Same'.free {p q : Addr} {H H' : Hp} (s : Same' p H H') (h : H' q = none) (n : q ≠ p) : H q = none := by
  cases e : H q with
  | none => rfl
  | some o =>
    rw [s q o e n] at h
    cases h
theorem Src.not_none {H : Hp} {p q : Addr} (h : Src H p) (hq : H q = none) : q ≠ p := fun e => by
  obtain ⟨xs, h1⟩ := h.lst
  rw [e, h1] at hq
  cases hq
/-- the script: locked, or an object of the module -/
def Scr (K : PySem.W.Frag) (H : Hp) (l : Addr) (ns : List Int) : Prop := (∃ o, H l = some (.frz o (.lst (ns.map V.int)))) ∨ ∀ H', SqL K H' l (ns.map V.int)
theorem Scr.of {K : PySem.W.Frag} {H : Hp} {l : Addr} {ns : List Int} (hO : Only H) (h : SqL K H l (ns.map V.int)) : Scr K H l ns := by
  rcases h with (h | ⟨o, h⟩) | h
  · rcases hO l with z | ⟨o, xs, z⟩
    · rw [h] at z
      cases z
    · rw [h] at z
      cases z
  · exact Or.inl ⟨o, h⟩
  · exact Or.inr fun H' => Or.inr h
theorem Scr.seq {K : PySem.W.Frag} {H : Hp} {l : Addr} {ns : List Int} (h : Scr K H l ns) : SqL K H l (ns.map V.int) := by
  rcases h with ⟨o, h⟩ | h
  · exact Or.inl (Or.inr ⟨o, h⟩)
  · exact h H
theorem Scr.same {K : PySem.W.Frag} {H H' : Hp} {l : Addr} {ns : List Int} (h : Scr K H l ns) (s : Same H H') : Scr K H' l ns := by
  rcases h with ⟨o, h⟩ | h
  · exact Or.inl ⟨o, s _ _ h⟩
  · exact Or.inr h
theorem Scr.same' {K : PySem.W.Frag} {H H' : Hp} {l p : Addr} {ns : List Int} (h : Scr K H l ns) (s : Same' p H H') (hp : ∃ xs, H p = some (.lst xs)) : Scr K H' l ns := by
  rcases h with ⟨o, h⟩ | h
  · refine Or.inl ⟨o, s _ _ h fun e => ?_⟩
    obtain ⟨xs, hx⟩ := hp
    rw [e, hx] at h
    cases h
  · exact Or.inr h
theorem seqIx {n j : Nat} (h : j < n) : PySem.seqIndex? (j : Int) n = some j := by
  show (if (decide (0 ≤ if (j : Int) < 0 then (j : Int) + n else j) && decide ((if (j : Int) < 0 then (j : Int) + n else j) < (n : Int))) = true then some (if (j : Int) < 0 then (j : Int) + n else j).toNat else none) = some j
  have e : (if (j : Int) < 0 then (j : Int) + n else (j : Int)) = (j : Int) := if_neg (by omega)
  rw [e, if_pos (by rw [decide_eq_true (show (0 : Int) ≤ j by omega), decide_eq_true (show (j : Int) < n by omega)]; rfl)]
  simp
theorem erase_map {α β : Type} (f : α → β) : ∀ (l : List α) (j : Nat), (l.map f).eraseIdx j = (l.eraseIdx j).map f
  | [], _ => rfl
  | x :: l, 0 => rfl
  | x :: l, j + 1 => by
    show f x :: (l.map f).eraseIdx j = f x :: (l.eraseIdx j).map f
    rw [erase_map f l j]
theorem erase_perm {α : Type} : ∀ {l : List α} {j : Nat} {x : α}, l[j]? = some x → (x :: l.eraseIdx j).Perm l
  | [], j, x, h => by simp at h
  | y :: l, 0, x, h => by
    have e : y = x := Option.some.inj h
    rw [e]
    exact List.Perm.refl _
  | y :: l, j + 1, x, h => by
    have ih := erase_perm (l := l) (j := j) (x := x) (by simpa using h)
    exact (List.Perm.swap _ _ _).trans (ih.cons _)
theorem abc_at : ∀ m : Nat, m < 26 → atI (Str.ofString "abcdefghijklmnopqrstuvwxyz").cps.toList (m : Int) = some (97 + m) := by
  decide +kernel
theorem abc_len : (Str.ofString "abcdefghijklmnopqrstuvwxyz").length ≤ sizeLine := by
  have e : (Str.ofString "abcdefghijklmnopqrstuvwxyz").length = 26 := by decide +kernel
  rw [e]
  decide
theorem Same'.tups {p : Addr} {H H' : Hp} (s : Same' p H H') {xs : List V} (hp : H p = some (.lst xs)) : ∀ b ys, H b = some (.tup ys) → H' b = some (.tup ys) := fun b ys e => s b _ e fun q => by
  rw [q, hp] at e
  cases e
/-- a row that is being drawn -/
structure Drw (H : Hp) (D q p : Addr) (n i : Nat) (H0 : Hp) : Prop where
  ex : ∃ (us : List Addr) (rr : Row) (ls : List Nat), H D = some (.lst (us.map V.ref)) ∧ H q = some (.lst (ls.map vN)) ∧ TupsAt H us rr ∧ rr.length = i ∧ (rr.map (·.1) ++ ls).Perm (List.range n) ∧ Cok rr
  src : Src H p
  same : Same' p H0 H
theorem drw_end {H H0 : Hp} {D q p : Addr} {n : Nat} (h : Drw H D q p n n H0) (n1 : 1 ≤ n) (n2 : n ≤ 60) : ∃ r, RowAt H D r ∧ Vr r := by
  obtain ⟨us, rr, ls, h1, h2, h3, h4, h5, h6⟩ := h.ex
  have e := h5.length_eq
  rw [List.length_append, List.length_map, List.length_range] at e
  have : ls = [] := List.length_eq_zero_iff.mp (by omega)
  rw [this, List.append_nil] at h5
  exact ⟨rr, ⟨us, h1, h3⟩, ⟨by omega, by omega, h6, by rw [h4]; exact h5⟩⟩
theorem pick4 (a b c d : Int) {j : Int} (h0 : 0 ≤ j) (h1 : j < 4) : ∃ x : Int, atI [V.int a, V.int b, V.int c, V.int d] j = some (.int x) ∧ (x = a ∨ x = b ∨ x = c ∨ x = d) := by
  have : j = 0 ∨ j = 1 ∨ j = 2 ∨ j = 3 := by omega
  rcases this with e | e | e | e
  · subst e
    exact ⟨a, rfl, Or.inl rfl⟩
  · subst e
    exact ⟨b, rfl, Or.inr (Or.inl rfl)⟩
  · subst e
    exact ⟨c, rfl, Or.inr (Or.inr (Or.inl rfl))⟩
  · subst e
    exact ⟨d, rfl, Or.inr (Or.inr (Or.inr rfl))⟩
theorem rgV_nat {z : Int} (h : 0 ≤ z) : rgV 0 z = (List.range z.toNat).map vN := by
  have e : z = (z.toNat : Int) := by omega
  rw [e, rgV_is, List.map_map]
  rfl
theorem rd_ifV {σ : St} {H : Hp} {Q : VK} {v : V} {t : TT} {ta tb : TE} (b : Bool) (ht : ∀ R : Bool → Hp → Prop, R b H → t σ H R) (ha : b = true → ∀ R : VK, R v H → ta σ H R) (hb : b = false → ∀ R : VK, R v H → tb σ H R) (q : Q v H) : tIf t ta tb σ H Q := by
  refine ht _ ?_
  cases b with
  | true => exact ha rfl _ q
  | false => exact hb rfl _ q
theorem scal_oV (x y : Option Nat) : scal (oV x) (oV y) = true := by
  cases x <;> cases y <;> rfl
theorem oV_inj {x y : Option Nat} (h : oV x = oV y) : x = y := by
  cases x with
  | none =>
    cases y with
    | none => rfl
    | some b => cases h
  | some a =>
    cases y with
    | none => cases h
    | some b =>
      injection h with h
      injection h with h
      injection h with h
      injection h with h
      rw [h]
theorem sg_inj {x y : Nat} (h : sg x = sg y) : x = y := by
  have := oV_inj (x := some x) (y := some y) h
  exact Option.some.inj this
theorem sIx_nat (n d : Nat) (k : Nat) (h : k ≤ n) : HT.sIx n d (some (k : Int)) = k := by
  rw [HT.sIx_nat]
  omega
theorem cut_take (xs : List V) (k : Nat) (h : k ≤ xs.length) : cutV xs none (some (k : Int)) = xs.take k := by
  unfold cutV
  rw [sIx_nat _ _ _ h]
  have e : HT.sIx xs.length 0 none = 0 := rfl
  rw [e]
  rfl
theorem cut_drop (xs : List V) (k : Nat) (h : k ≤ xs.length) : cutV xs (some (k : Int)) none = xs.drop k := by
  unfold cutV
  rw [sIx_nat _ _ _ h]
  have e : HT.sIx xs.length xs.length none = xs.length := rfl
  rw [e]
  apply List.take_of_length_le
  rw [List.length_drop]
  omega
theorem at_last {α : Type} {l : List α} (h : 0 < l.length) : ∃ x ∈ l, atI l (-1) = some x := by
  have h2 : l.length - 1 < l.length := by omega
  refine ⟨l[l.length - 1], List.getElem_mem h2, ?_⟩
  unfold atI ixN
  rw [if_neg (by omega), if_pos (by omega)]
  show l[((-1 : Int) + l.length).toNat]? = _
  rw [show ((-1 : Int) + l.length).toNat = l.length - 1 by omega]
  exact List.getElem?_eq_getElem h2
theorem pick3 (a b c : Nat) {j : Int} (h0 : 0 ≤ j) (h1 : j < 3) : ∃ x : Nat, atI [sg a, sg b, sg c] j = some (sg x) ∧ (x = a ∨ x = b ∨ x = c) := by
  have : j = 0 ∨ j = 1 ∨ j = 2 := by omega
  rcases this with e | e | e
  · subst e
    exact ⟨a, rfl, Or.inl rfl⟩
  · subst e
    exact ⟨b, rfl, Or.inr (Or.inl rfl)⟩
  · subst e
    exact ⟨c, rfl, Or.inr (Or.inr rfl)⟩
theorem rd_forL {K : PySem.W.Frag} {σ : St} {H : Hp} {tl : TE} {g : TG} {tb : TS} {D : Ends} (M : Addr → Hp → Prop) (h1 : ∀ R : VK, (∀ b H1, M b H1 → R (.ref b) H1) → tl σ H R)
    (h2 : ∀ b H1, M b H1 → (∃ xs, SqL K H1 b xs) ∧ ∃ W : Nat → Nat → St → Hp → Prop, (∃ m, W 0 m σ H1) ∧ ∀ i m σ H, W i m σ H →
      ((Itl K b).stop i H ∧ D.nx σ H) ∨ ((Itl K b).go i H ∧ ∃ N : St → Hp → Prop, (∀ σ' H', N σ' H' → ∃ m', m' < m ∧ W (i + 1) m' σ' H') ∧ ∀ x H', (Itl K b).yld i H x H' → g x σ H' fun σ2 H2 => tb { D with nx := N, ct := N, bk := D.nx } σ2 H2)) :
    tFor (iList K tl) g tb D σ H := h1 _ fun b H1 m => ⟨b, rfl, (h2 b H1 m).1, (h2 b H1 m).2⟩
theorem cut_tail (xs : List V) : cutV xs (some 1) none = xs.drop 1 := by
  by_cases h : 1 ≤ xs.length
  · exact cut_drop xs 1 h
  · have e : xs = [] := List.length_eq_zero_iff.mp (by omega)
    rw [e]
    rfl
theorem rd_in {neg : Bool} {K : PySem.W.Frag} {H : Hp} {Q : VK} {x : V} {p : Addr} {xs : List V} {b : Bool} (h : H p = some (.lst xs)) (f : flatV x = true) (fs : xs.all flatV = true) (hb : inV x xs = b) (q : Q (.bl (if neg then !b else b)) H) : rIn K neg x (.ref p) H Q :=
  ⟨p, xs, rfl, Or.inl (SqL.of h), f, fs, by rw [hb]; exact q⟩
theorem rd_notin {K : PySem.W.Frag} {H : Hp} {Q : VK} {x : V} {p : Addr} {xs : List V} {b : Bool} (h : H p = some (.lst xs)) (f : flatV x = true) (fs : xs.all flatV = true) (hb : inV x xs = b) (q : Q (.bl (!b)) H) : rIn K true x (.ref p) H Q :=
  rd_in h f fs hb q
theorem rd_isin {K : PySem.W.Frag} {H : Hp} {Q : VK} {x : V} {p : Addr} {xs : List V} {b : Bool} (h : H p = some (.lst xs)) (f : flatV x = true) (fs : xs.all flatV = true) (hb : inV x xs = b) (q : Q (.bl b) H) : rIn K false x (.ref p) H Q :=
  rd_in h f fs hb q
theorem rd_forR {σ : St} {H : Hp} {ta : TA} {n : Int} {g : TG} {tb : TS} {D : Ends} (M : Hp → Prop) (h1 : ∀ R : List V → Hp → Prop, (∀ H1, M H1 → R [.int n] H1) → ta σ H R) (n0 : 0 ≤ n) (n1 : n ≤ 100000)
    (h2 : ∀ H1, M H1 → ∃ W : Nat → Nat → St → Hp → Prop, (∃ m, W 0 m σ H1) ∧ ∀ i m σ H, W i m σ H →
      ((Itr 0 n.toNat).stop i H ∧ D.nx σ H) ∨ ((Itr 0 n.toNat).go i H ∧ ∃ N : St → Hp → Prop, (∀ σ' H', N σ' H' → ∃ m', m' < m ∧ W (i + 1) m' σ' H') ∧ ∀ x H', (Itr 0 n.toNat).yld i H x H' → g x σ H' fun σ2 H2 => tb { D with nx := N, ct := N, bk := D.nx } σ2 H2)) :
    tFor (iRng1 ta) g tb D σ H := h1 _ fun H1 m => ⟨n, rfl, by omega, by omega, h2 H1 m⟩
theorem rd_forRn {σ : St} {H : Hp} {ta : TA} {g : TG} {tb : TS} {D : Ends} (M : Int → Hp → Prop) (h1 : ∀ R : List V → Hp → Prop, (∀ n H1, M n H1 → R [.int n] H1) → ta σ H R)
    (h2 : ∀ n H1, M n H1 → 0 ≤ n ∧ n ≤ 100000 ∧ ∃ W : Nat → Nat → St → Hp → Prop, (∃ m, W 0 m σ H1) ∧ ∀ i m σ H, W i m σ H →
      ((Itr 0 n.toNat).stop i H ∧ D.nx σ H) ∨ ((Itr 0 n.toNat).go i H ∧ ∃ N : St → Hp → Prop, (∀ σ' H', N σ' H' → ∃ m', m' < m ∧ W (i + 1) m' σ' H') ∧ ∀ x H', (Itr 0 n.toNat).yld i H x H' → g x σ H' fun σ2 H2 => tb { D with nx := N, ct := N, bk := D.nx } σ2 H2)) :
    tFor (iRng1 ta) g tb D σ H := h1 _ fun n H1 m => ⟨n, rfl, by have := (h2 n H1 m).1; omega, by have := (h2 n H1 m).2.1; omega, (h2 n H1 m).2.2⟩
/-! ### what calls take, runs -/
def takens : Row → List Nat → List (Option Nat)
  | _, [] => []
  | r, p :: cs => fo r (colOf r p) :: takens (app r p) cs
theorem takens_snoc : ∀ (r : Row) (cs : List Nat) (p : Nat), takens r (cs ++ [p]) = takens r cs ++ [fo (apps r cs) (colOf (apps r cs) p)]
  | _, [], _ => rfl
  | r, q :: cs, p => by
    show fo r (colOf r q) :: takens (app r q) (cs ++ [p]) = fo r (colOf r q) :: (takens (app r q) cs ++ [_])
    rw [takens_snoc (app r q) cs p]
    rfl
theorem takens_len : ∀ (r : Row) (cs : List Nat), (takens r cs).length = cs.length
  | _, [] => rfl
  | r, p :: cs => congrArg (· + 1) (takens_len (app r p) cs)
/-- the last run grows, or a new one begins -/
def rsnoc (acc : List (Int × Nat)) (x : Int) : List (Int × Nat) :=
  match acc.getLast? with
  | some (y, k) => if y = x then acc.set (acc.length - 1) (x, k + 1) else acc ++ [(x, 1)]
  | none => acc ++ [(x, 1)]
def runsI (cs : List Int) : List (Int × Nat) := cs.foldl rsnoc []
theorem runsI_snoc (cs : List Int) (x : Int) : runsI (cs ++ [x]) = rsnoc (runsI cs) x := by
  unfold runsI
  rw [List.foldl_append]
  rfl
theorem rsnoc_len (acc : List (Int × Nat)) (x : Int) : (rsnoc acc x).length ≤ acc.length + 1 := by
  unfold rsnoc
  split
  · split
    · rw [List.length_set]
      omega
    · rw [List.length_append]
      simp
  · rw [List.length_append]
    simp
theorem runs_fold_len : ∀ (cs : List Int) (acc : List (Int × Nat)), (cs.foldl rsnoc acc).length ≤ acc.length + cs.length
  | [], acc => Nat.le_refl _
  | x :: cs, acc => by
    have h1 := runs_fold_len cs (rsnoc acc x)
    have h2 := rsnoc_len acc x
    show (cs.foldl rsnoc (rsnoc acc x)).length ≤ acc.length + (cs.length + 1)
    omega
theorem runsI_len (cs : List Int) : (runsI cs).length ≤ cs.length := by
  have := runs_fold_len cs []
  have e : ([] : List (Int × Nat)).length = 0 := rfl
  rw [e] at this
  unfold runsI
  omega
def shortR (rs : List (Int × Nat)) : List Int := rs.flatMap fun e => List.replicate (if e.2 % 2 = 1 then 1 else 2) e.1
def short (cs : List Int) : List Int := shortR (runsI cs)
theorem shortR_snoc (rs : List (Int × Nat)) (e : Int × Nat) : shortR (rs ++ [e]) = shortR rs ++ List.replicate (if e.2 % 2 = 1 then 1 else 2) e.1 := by
  unfold shortR
  rw [List.flatMap_append, List.flatMap_cons, List.flatMap_nil, List.append_nil]
theorem shortR_len (rs : List (Int × Nat)) : (shortR rs).length ≤ 2 * rs.length := by
  induction rs with
  | nil => exact Nat.le_refl _
  | cons e rs ih =>
    unfold shortR at ih ⊢
    rw [List.flatMap_cons, List.length_append, List.length_replicate, List.length_cons]
    split <;> omega
abbrev prI (e : Int × Nat) : List V := [.int e.1, .int (e.2 : Int)]
/-- tuples of two ints -/
def PairsAt (H : Hp) : List Addr → List (Int × Nat) → Prop
  | [], [] => True
  | t :: ts, e :: r => H t = some (.tup (prI e)) ∧ PairsAt H ts r
  | _, _ => False
theorem PairsAt.len {H : Hp} : ∀ {ts : List Addr} {r : List (Int × Nat)}, PairsAt H ts r → ts.length = r.length
  | [], [], _ => rfl
  | _ :: ts, _ :: r, h => congrArg (· + 1) (PairsAt.len (ts := ts) (r := r) h.2)
  | [], _ :: _, h => h.elim
  | _ :: _, [], h => h.elim
theorem PairsAt.mono {H H' : Hp} : ∀ {ts : List Addr} {r : List (Int × Nat)}, PairsAt H ts r → (∀ b xs, H b = some (.tup xs) → H' b = some (.tup xs)) → PairsAt H' ts r
  | [], [], _, _ => True.intro
  | _ :: ts, _ :: r, h, k => ⟨k _ _ h.1, PairsAt.mono (ts := ts) (r := r) h.2 k⟩
  | [], _ :: _, h, _ => h.elim
  | _ :: _, [], h, _ => h.elim
theorem PairsAt.get {H : Hp} : ∀ {ts : List Addr} {r : List (Int × Nat)} {i : Nat} {t : Addr}, PairsAt H ts r → ts[i]? = some t → ∃ e, r[i]? = some e ∧ H t = some (.tup (prI e))
  | [], [], i, t, _, h => by simp at h
  | _ :: ts, e :: r, 0, t, h, q => by
    simp at q
    subst q
    exact ⟨e, rfl, h.1⟩
  | _ :: ts, _ :: r, i + 1, t, h, q => by
    simp at q
    obtain ⟨e, h1, h2⟩ := PairsAt.get (ts := ts) (r := r) h.2 q
    exact ⟨e, by simpa using h1, h2⟩
  | [], _ :: _, _, _, h, _ => h.elim
  | _ :: _, [], _, _, h, _ => h.elim
theorem PairsAt.snoc {H : Hp} {t : Addr} {e : Int × Nat} (ht : H t = some (.tup (prI e))) : ∀ {ts : List Addr} {r : List (Int × Nat)}, PairsAt H ts r → PairsAt H (ts ++ [t]) (r ++ [e])
  | [], [], _ => ⟨ht, True.intro⟩
  | _ :: ts, _ :: r, h => ⟨h.1, PairsAt.snoc ht (ts := ts) (r := r) h.2⟩
  | [], _ :: _, h => h.elim
  | _ :: _, [], h => h.elim
theorem PairsAt.set {H : Hp} {t : Addr} {e : Int × Nat} (ht : H t = some (.tup (prI e))) : ∀ {ts : List Addr} {r : List (Int × Nat)} (j : Nat), PairsAt H ts r → PairsAt H (ts.set j t) (r.set j e)
  | [], [], _, _ => True.intro
  | _ :: ts, _ :: r, 0, h => ⟨ht, h.2⟩
  | _ :: ts, _ :: r, j + 1, h => ⟨h.1, PairsAt.set ht (ts := ts) (r := r) j h.2⟩
  | [], _ :: _, _, h => h.elim
  | _ :: _, [], _, h => h.elim
theorem PairsAt.last {H : Hp} {ts : List Addr} {r : List (Int × Nat)} (h : PairsAt H ts r) {e : Int × Nat} (he : r.getLast? = some e) : ∃ t, ts[ts.length - 1]? = some t ∧ H t = some (.tup (prI e)) := by
  have hl := h.len
  rw [List.getLast?_eq_getElem?] at he
  have h1 : r.length - 1 < r.length := (List.getElem?_eq_some_iff.mp he).1
  have h2 : ts.length - 1 < ts.length := by omega
  have h3 := List.getElem?_eq_getElem h2
  obtain ⟨e', h4, h5⟩ := h.get h3
  rw [show ts.length - 1 = r.length - 1 by omega, he] at h4
  cases h4
  exact ⟨_, h3, h5⟩
theorem at_neg1 {α : Type} {l : List α} {x : α} (h : l[l.length - 1]? = some x) : atI l (-1) = some x := by
  have h1 := (List.getElem?_eq_some_iff.mp h).1
  unfold atI ixN
  rw [if_neg (by omega), if_pos (by omega)]
  show l[((-1 : Int) + l.length).toNat]? = _
  rw [show ((-1 : Int) + l.length).toNat = l.length - 1 by omega]
  exact h
theorem ix_neg1 {n : Nat} (h : 0 < n) : ixN n (-1) = some (n - 1) := by
  unfold ixN
  rw [if_neg (by omega), if_pos (by omega)]
  congr 1
  omega
theorem rd_truL {K : PySem.W.Frag} {H : Hp} {p : Addr} {xs : List V} {R : Bool → Prop} (h : H p = some (.lst xs)) (q : R (!xs.isEmpty)) : ∃ k, TruV K (.ref p) H k ∧ R k := ⟨_, Or.inl ⟨xs, SqL.of h, rfl⟩, q⟩
theorem rd_qtru {K : PySem.W.Frag} {σ : St} {H : Hp} {ta : TE} {Q : Bool → Hp → Prop} (q : ta σ H fun x H' => ∃ k, TruV K x H' k ∧ Q k H') : qTru K ta σ H Q := q
theorem sz1000 {n : Nat} (h : n ≤ 100000) : n < sizeLine := Nat.lt_of_le_of_lt h (by decide)
/-- a row that is filtered, its entries as they stand -/
theorem filt_turn {H : Hp} {us : List Addr} {r : Row} {i : Nat} {p : Nat × Nat → Bool} {t : Addr} {e : Nat × Nat} (h : TupsAt H us ((r.take i).filter p)) (he : r[i]? = some e) (ht : H t = some (.tup (pr e))) :
    TupsAt H (if p e = true then us ++ [t] else us) ((r.take (i + 1)).filter p) := by
  rw [take_of he, List.filter_append]
  by_cases c : p e = true
  · rw [if_pos c, List.filter_cons_of_pos c]
    exact h.app (TupsAt.one ht)
  · rw [if_neg c, List.filter_cons_of_neg c]
    show TupsAt H us (_ ++ [])
    rw [List.append_nil]
    exact h
/-- what happens to the runs, by the last one -/
theorem rsnoc_grow {acc : List (Int × Nat)} {x : Int} {k : Nat} (h : acc.getLast? = some (x, k)) : rsnoc acc x = acc.set (acc.length - 1) (x, k + 1) := by
  unfold rsnoc
  rw [h]
  show (if x = x then _ else _) = _
  rw [if_pos rfl]
theorem rsnoc_new {acc : List (Int × Nat)} {x y : Int} {k : Nat} (h : acc.getLast? = some (y, k)) (n : y ≠ x) : rsnoc acc x = acc ++ [(x, 1)] := by
  unfold rsnoc
  rw [h]
  show (if y = x then _ else _) = _
  rw [if_neg n]
theorem rsnoc_nil (x : Int) : rsnoc [] x = [(x, 1)] := rfl
theorem last_of_ne {acc : List (Int × Nat)} (h : acc ≠ []) : ∃ e, acc.getLast? = some e := ⟨_, List.getLast?_eq_some_getLast h⟩
theorem rd_iteJ {b : Bool} {σ : St} {H : Hp} {ta tb : TE} {Q : VK} (v : V) (h1 : b = true → ∀ R : VK, R v H → ta σ H R) (h2 : b = false → ∀ R : VK, R v H → tb σ H R) (q : Q v H) : if b = true then ta σ H Q else tb σ H Q := by
  cases b with
  | true => exact iteT (h1 rfl _ q)
  | false => exact iteF (h2 rfl _ q)
end LX

/-! ### comprehensions that add only new objects: the list they make -/
namespace LX
open PySem L2
theorem range_fm {α β : Type} (f : α → Option β) : ∀ l : List α, (List.range l.length).filterMap (fun i => (l[i]?).bind f) = l.filterMap f
  | [] => rfl
  | x :: l => by
    rw [List.length_cons, List.range_succ_eq_map, List.filterMap_cons, List.filterMap_map]
    have ih := range_fm f l
    show (match f x with | none => _ | some b => b :: _) = _
    have e : ((fun i => ((x :: l)[i]?).bind f) ∘ Nat.succ) = fun i => (l[i]?).bind f := rfl
    rw [e, ih]
    cases q : f x with
    | none => rw [List.filterMap_cons_none q]
    | some y => rw [List.filterMap_cons_some q]
section
variable {K : PySem.W.Frag} {a D : Addr} {xs : List V} {g : TG} {tt : TT} {te : TE} {vs : List Nat} {σ : L2.St} {H1 : Hp} {Qd : Hp → Prop}
theorem lc_ix (f : Nat → Option V) (hD : H1 D = none) (ha : ∀ H, Same H1 H → SqL K H a xs) (hz : xs.length ≤ 1000)
    (hs : ∀ i x, xs[i]? = some x → ∀ H, Same H1 H → ∀ (T : V → Hp → Prop) (F : Hp → Prop), (∀ y H', f i = some y → Same H H' → T y H') → (∀ H', f i = none → Same H H' → F H') →
      g x (wipe σ vs) H fun σ2 H2 => wipe σ2 vs = wipe σ vs ∧ tt σ2 H2 fun b H3 => if b = true then te σ2 H3 T else F H3)
    (hd : ∀ H', Same H1 H' → H' D = some (.lst ((List.range xs.length).filterMap f)) → Qd H') :
    ∃ W : Nat → Nat → Hp → Prop, (∃ m, W 0 m (upd H1 D (.lst []))) ∧ ∀ i m H, W i m H →
      ((Itl K a).stop i H ∧ Qd H) ∨ ((Itl K a).go i H ∧ ∃ Nx : Hp → Prop, (∀ H', Nx H' → ∃ m', m' < m ∧ W (i + 1) m' H') ∧ ∀ x H', (Itl K a).yld i H x H' → g x (wipe σ vs) H' fun σ2 H2 => wipe σ2 vs = wipe σ vs ∧ tt σ2 H2 fun b H3 =>
        if b = true then te σ2 H3 fun y H4 => ∃ acc, H4 D = some (.lst acc) ∧ acc.length < sizeLine ∧ Nx (upd H4 D (.lst (acc ++ [y]))) else Nx H3) := by
  refine lc_list (K := K) (a := a) (xs := xs) (fun i H => Same H1 H ∧ H D = some (.lst ((List.range i).filterMap f)) ∧ i ≤ 1000) ⟨sNew hD, upd_same, Nat.zero_le _⟩ (fun i H _ h => ha H h.1) ?_ ?_
  · rintro i x H hi ⟨s, e, hi2⟩
    have hil : i < xs.length := (List.getElem?_eq_some_iff.mp hi).1
    have ln : ((List.range i).filterMap f).length ≤ i := by
      have := List.length_filterMap_le f (List.range i)
      rw [List.length_range] at this
      exact this
    refine hs i x hi H s _ _ (fun y H' hy s2 => ⟨_, s2 _ _ e, small1000 (Nat.le_trans ln hi2), sUpd (s.trans s2) hD, ?_, by omega⟩) fun H' hn s2 => ⟨s.trans s2, ?_, by omega⟩
    · rw [upd_same, List.range_succ, List.filterMap_append, List.filterMap_cons_some hy]
      rfl
    · rw [s2 _ _ e, List.range_succ, List.filterMap_append, List.filterMap_cons_none hn]
      show _ = some (HO.lst (_ ++ []))
      rw [List.append_nil]
  · rintro H ⟨s, e, _⟩
    exact hd H s e
theorem lc_rng {n : Nat} (f : Nat → Option V) (hD : H1 D = none) (hz : n ≤ 1000)
    (hs : ∀ i, i < n → ∀ H, Same H1 H → ∀ (T : V → Hp → Prop) (F : Hp → Prop), (∀ y H', f i = some y → Same H H' → T y H') → (∀ H', f i = none → Same H H' → F H') →
      g (.int (i : Int)) (wipe σ vs) H fun σ2 H2 => wipe σ2 vs = wipe σ vs ∧ tt σ2 H2 fun b H3 => if b = true then te σ2 H3 T else F H3)
    (hd : ∀ H', Same H1 H' → H' D = some (.lst ((List.range n).filterMap f)) → Qd H') :
    ∃ W : Nat → Nat → Hp → Prop, (∃ m, W 0 m (upd H1 D (.lst []))) ∧ ∀ i m H, W i m H →
      ((Itr 0 n).stop i H ∧ Qd H) ∨ ((Itr 0 n).go i H ∧ ∃ Nx : Hp → Prop, (∀ H', Nx H' → ∃ m', m' < m ∧ W (i + 1) m' H') ∧ ∀ x H', (Itr 0 n).yld i H x H' → g x (wipe σ vs) H' fun σ2 H2 => wipe σ2 vs = wipe σ vs ∧ tt σ2 H2 fun b H3 =>
        if b = true then te σ2 H3 fun y H4 => ∃ acc, H4 D = some (.lst acc) ∧ acc.length < sizeLine ∧ Nx (upd H4 D (.lst (acc ++ [y]))) else Nx H3) := by
  refine lc_range (lo := 0) (n := n) (fun i H => Same H1 H ∧ H D = some (.lst ((List.range i).filterMap f)) ∧ i ≤ 1000) ⟨sNew hD, upd_same, Nat.zero_le _⟩ ?_ ?_
  · rintro i H hi ⟨s, e, hi2⟩
    have ln : ((List.range i).filterMap f).length ≤ i := by
      have := List.length_filterMap_le f (List.range i)
      rw [List.length_range] at this
      exact this
    rw [Int.zero_add]
    refine hs i hi H s _ _ (fun y H' hy s2 => ⟨_, s2 _ _ e, small1000 (Nat.le_trans ln hi2), sUpd (s.trans s2) hD, ?_, by omega⟩) fun H' hn s2 => ⟨s.trans s2, ?_, by omega⟩
    · rw [upd_same, List.range_succ, List.filterMap_append, List.filterMap_cons_some hy]
      rfl
    · rw [s2 _ _ e, List.range_succ, List.filterMap_append, List.filterMap_cons_none hn]
      show _ = some (HO.lst (_ ++ []))
      rw [List.append_nil]
  · rintro H ⟨s, e, _⟩
    exact hd H s e
theorem rd_lc {wi : TI} {H : Hp} {Q : VK} (q : wi σ H fun J H1 => ∀ D, H1 D = none → ∃ W : Nat → Nat → Hp → Prop, (∃ m, W 0 m (upd H1 D (.lst []))) ∧ ∀ i m H, W i m H →
  (J.stop i H ∧ Q (.ref D) H) ∨ (J.go i H ∧ ∃ Nx : Hp → Prop, (∀ H', Nx H' → ∃ m', m' < m ∧ W (i + 1) m' H') ∧ ∀ x H', J.yld i H x H' → g x (wipe σ vs) H' fun σ2 H2 => wipe σ2 vs = wipe σ vs ∧ tt σ2 H2 fun b H3 =>
    if b = true then te σ2 H3 fun y H4 => ∃ acc, H4 D = some (.lst acc) ∧ acc.length < sizeLine ∧ Nx (upd H4 D (.lst (acc ++ [y]))) else Nx H3)) : tLc wi g tt te vs σ H Q := q
theorem rd_iR {ta : TA} {H : Hp} {R : It → Hp → Prop} (q : ta σ H fun vs H1 => ∃ j : Int, vs = [.int j] ∧ -(2 ^ 62) ≤ j ∧ j < 2 ^ 62 ∧ R (Itr 0 j.toNat) H1) : iRng1 ta σ H R := q
theorem rd_n {n : Nat} {R : It → Prop} (h : n ≤ 1000) (q : R (Itr 0 n)) : ∃ j : Int, [V.int (n : Int)] = [.int j] ∧ -(2 ^ 62) ≤ j ∧ j < 2 ^ 62 ∧ R (Itr 0 j.toNat) := ⟨n, rfl, by omega, by omega, q⟩
/-- over a list of plain values -/
theorem lc_vals {α : Type} {zs : List α} {v : α → V} (f : α → Option V) (hD : H1 D = none) (ha : H1 a = some (.lst (zs.map v))) (hz : zs.length ≤ 1000)
    (hs : ∀ x, x ∈ zs → ∀ H, Same H1 H → ∀ (T : V → Hp → Prop) (F : Hp → Prop), (∀ y H', f x = some y → Same H H' → T y H') → (∀ H', f x = none → Same H H' → F H') →
      g (v x) (wipe σ vs) H fun σ2 H2 => wipe σ2 vs = wipe σ vs ∧ tt σ2 H2 fun b H3 => if b = true then te σ2 H3 T else F H3)
    (hd : ∀ H', Same H1 H' → H' D = some (.lst (zs.filterMap f)) → Qd H') :
    ∃ W : Nat → Nat → Hp → Prop, (∃ m, W 0 m (upd H1 D (.lst []))) ∧ ∀ i m H, W i m H →
      ((Itl K a).stop i H ∧ Qd H) ∨ ((Itl K a).go i H ∧ ∃ Nx : Hp → Prop, (∀ H', Nx H' → ∃ m', m' < m ∧ W (i + 1) m' H') ∧ ∀ x H', (Itl K a).yld i H x H' → g x (wipe σ vs) H' fun σ2 H2 => wipe σ2 vs = wipe σ vs ∧ tt σ2 H2 fun b H3 =>
        if b = true then te σ2 H3 fun y H4 => ∃ acc, H4 D = some (.lst acc) ∧ acc.length < sizeLine ∧ Nx (upd H4 D (.lst (acc ++ [y]))) else Nx H3) := by
  refine lc_ix (xs := zs.map v) (fun i => (zs[i]?).bind f) hD (fun H s => SqL.of (s _ _ ha)) (by rw [List.length_map]; exact hz) (fun i x hi H s T F hT hF => ?_) fun H' s e => hd H' s ?_
  · rw [List.getElem?_map] at hi
    obtain ⟨z, h1, rfl⟩ := Option.map_eq_some_iff.mp hi
    refine hs z (List.mem_of_getElem? h1) H s T F (fun y H' hy => hT y H' ?_) fun H' hn => hF H' ?_
    · rw [h1]
      exact hy
    · rw [h1]
      exact hn
  · rw [List.length_map, range_fm] at e
    exact e
/-- over a row -/
theorem lc_row {ts : List Addr} {r : Row} (f : Nat × Nat → Option V) (hD : H1 D = none) (ha : H1 a = some (.lst (ts.map V.ref))) (ht : TupsAt H1 ts r) (hz : r.length ≤ 1000)
    (hs : ∀ t e, e ∈ r → t ∈ ts → ∀ H, Same H1 H → H t = some (.tup (pr e)) → ∀ (T : V → Hp → Prop) (F : Hp → Prop), (∀ y H', f e = some y → Same H H' → T y H') → (∀ H', f e = none → Same H H' → F H') →
      g (.ref t) (wipe σ vs) H fun σ2 H2 => wipe σ2 vs = wipe σ vs ∧ tt σ2 H2 fun b H3 => if b = true then te σ2 H3 T else F H3)
    (hd : ∀ H', Same H1 H' → H' D = some (.lst (r.filterMap f)) → Qd H') :
    ∃ W : Nat → Nat → Hp → Prop, (∃ m, W 0 m (upd H1 D (.lst []))) ∧ ∀ i m H, W i m H →
      ((Itl K a).stop i H ∧ Qd H) ∨ ((Itl K a).go i H ∧ ∃ Nx : Hp → Prop, (∀ H', Nx H' → ∃ m', m' < m ∧ W (i + 1) m' H') ∧ ∀ x H', (Itl K a).yld i H x H' → g x (wipe σ vs) H' fun σ2 H2 => wipe σ2 vs = wipe σ vs ∧ tt σ2 H2 fun b H3 =>
        if b = true then te σ2 H3 fun y H4 => ∃ acc, H4 D = some (.lst acc) ∧ acc.length < sizeLine ∧ Nx (upd H4 D (.lst (acc ++ [y]))) else Nx H3) := by
  have hl := ht.len
  refine lc_ix (xs := ts.map V.ref) (fun i => (r[i]?).bind f) hD (fun H s => SqL.of (s _ _ ha)) (by rw [List.length_map, hl]; exact hz) (fun i x hi H s T F hT hF => ?_) fun H' s e => hd H' s ?_
  · rw [List.getElem?_map] at hi
    obtain ⟨t, h1, rfl⟩ := Option.map_eq_some_iff.mp hi
    obtain ⟨e, h2, h3⟩ := ht.get h1
    refine hs t e (List.mem_of_getElem? h2) (List.mem_of_getElem? h1) H s (s _ _ h3) T F (fun y H' hy => hT y H' ?_) fun H' hn => hF H' ?_
    · rw [h2]
      exact hy
    · rw [h2]
      exact hn
  · rw [List.length_map, hl, range_fm] at e
    exact e
/-- over a row, the entries as they stand -/
theorem lc_rowF {ts : List Addr} {r : Row} (p : Nat × Nat → Bool) (hD : H1 D = none) (ha : H1 a = some (.lst (ts.map V.ref))) (ht : TupsAt H1 ts r) (hz : r.length ≤ 1000)
    (hs : ∀ t e, e ∈ r → ∀ H, Same H1 H → H t = some (.tup (pr e)) → ∀ (T : V → Hp → Prop) (F : Hp → Prop), (∀ H', p e = true → Same H H' → T (.ref t) H') → (∀ H', ¬ p e = true → Same H H' → F H') →
      g (.ref t) (wipe σ vs) H fun σ2 H2 => wipe σ2 vs = wipe σ vs ∧ tt σ2 H2 fun b H3 => if b = true then te σ2 H3 T else F H3)
    (hd : ∀ H' us, Same H1 H' → H' D = some (.lst (us.map V.ref)) → TupsAt H' us (r.filter p) → Qd H') :
    ∃ W : Nat → Nat → Hp → Prop, (∃ m, W 0 m (upd H1 D (.lst []))) ∧ ∀ i m H, W i m H →
      ((Itl K a).stop i H ∧ Qd H) ∨ ((Itl K a).go i H ∧ ∃ Nx : Hp → Prop, (∀ H', Nx H' → ∃ m', m' < m ∧ W (i + 1) m' H') ∧ ∀ x H', (Itl K a).yld i H x H' → g x (wipe σ vs) H' fun σ2 H2 => wipe σ2 vs = wipe σ vs ∧ tt σ2 H2 fun b H3 =>
        if b = true then te σ2 H3 fun y H4 => ∃ acc, H4 D = some (.lst acc) ∧ acc.length < sizeLine ∧ Nx (upd H4 D (.lst (acc ++ [y]))) else Nx H3) := by
  have hl := ht.len
  refine lc_list (K := K) (a := a) (xs := ts.map V.ref) (fun i H => Same H1 H ∧ ∃ us, H D = some (.lst (us.map V.ref)) ∧ TupsAt H us ((r.take i).filter p)) ⟨sNew hD, [], upd_same, True.intro⟩ (fun i H _ h => SqL.of (h.1 _ _ ha)) ?_ ?_
  · rintro i x H hi ⟨s, us, e, hU⟩
    rw [List.getElem?_map] at hi
    obtain ⟨t, h1, rfl⟩ := Option.map_eq_some_iff.mp hi
    obtain ⟨en, h2, h3⟩ := ht.get h1
    have hz2 := hU.len
    have ln : us.length ≤ 1000 := by
      have q := List.length_filter_le p (r.take i)
      rw [List.length_take] at q
      omega
    refine hs t en (List.mem_of_getElem? h2) H s (s _ _ h3) _ _ (fun H' c s2 => ⟨_, s2 _ _ e, small1000 (by rw [List.length_map]; exact ln), sUpd (s.trans s2) hD, us ++ [t], ?_, ?_⟩) fun H' c s2 => ⟨s.trans s2, us, s2 _ _ e, ?_⟩
    · rw [upd_same, List.map_append]
      rfl
    · have q := filt_turn hU h2 (s _ _ h3)
      rw [if_pos c] at q
      refine q.mono fun b ys eb => ?_
      have nb : b ≠ D := fun z => by
        rw [z, e] at eb
        cases eb
      rw [upd_ne nb]
      exact s2 _ _ eb
    · have q := filt_turn hU h2 (s _ _ h3)
      rw [if_neg c] at q
      exact q.mono (sTups s2)
  · rintro H ⟨s, us, e, hU⟩
    rw [List.length_map, hl, List.take_length] at hU
    exact hd H us s e hU
end
/-! ### the colors of the others -/
def ot (r : Row) (w : Nat) : List Nat := (r.filter fun e => e.1 != w).map (·.2)
theorem fm_if {α : Type} {p : α → Bool} {v : α → V} : ∀ l : List α, l.filterMap (fun e => if p e = true then some (v e) else none) = (l.filter p).map v
  | [] => rfl
  | x :: l => by
    by_cases h : p x = true
    · rw [List.filterMap_cons_some (b := v x) (by rw [if_pos h]), List.filter_cons_of_pos h, List.map_cons, fm_if l]
    · rw [List.filterMap_cons_none (by rw [if_neg h]), List.filter_cons_of_neg h, fm_if l]
theorem fm_all {α : Type} {v : α → V} : ∀ l : List α, l.filterMap (fun e => some (v e)) = l.map v
  | [] => rfl
  | x :: l => by
    have e : (x :: l).filterMap (fun e => some (v e)) = v x :: l.filterMap fun e => some (v e) := List.filterMap_cons_some (f := fun e => some (v e)) rfl
    rw [e, fm_all l, List.map_cons]
theorem colOf_is {r : Row} (nd : (r.map (·.1)).Nodup) {e : Nat × Nat} (he : e ∈ r) : colOf r e.1 = e.2 := by
  induction r with
  | nil => cases he
  | cons x r ih =>
    have nd' := List.nodup_cons.mp (show (x.1 :: r.map (·.1)).Nodup from nd)
    unfold colOf
    rcases List.mem_cons.mp he with z | z
    · rw [z, List.find?_cons_of_pos (by simp)]
      rfl
    · have : x.1 ≠ e.1 := fun q => nd'.1 (by rw [q]; exact List.mem_map_of_mem (f := (·.1)) z)
      rw [List.find?_cons_of_neg (by simpa using this)]
      exact ih nd'.2 z
theorem ot_find {c w : Nat} : ∀ {r : Row}, (∀ e ∈ r, e.1 = w → e.2 = c) → (ot r w).find? (fun x => x != c) = fo r c
  | [], _ => rfl
  | e :: r, h => by
    have ih := ot_find (r := r) fun x hx => h x (List.mem_cons_of_mem _ hx)
    by_cases k : e.1 = w
    · rw [fo_no (h e List.mem_cons_self k), ← ih]
      unfold ot
      rw [List.filter_cons_of_neg (by simpa using k)]
    · have e2 : ot (e :: r) w = e.2 :: ot r w := by
        unfold ot
        rw [List.filter_cons_of_pos (by simpa using k)]
        rfl
      rw [e2]
      by_cases d : e.2 = c
      · rw [fo_no d, ← ih, List.find?_cons_of_neg (by simpa using d)]
      · rw [fo_yes d, List.find?_cons_of_pos (by simpa using d)]
/-- what a called person takes, counted from the others -/
def cand (o : List Nat) (c : Nat) : List Nat := (o.take 1).filter (fun x => x != c) ++ o.filter fun x => x != o.headD 0
theorem cand_head (o : List Nat) (c : Nat) : (cand o c).head? = o.find? fun x => x != c := by
  unfold cand
  cases o with
  | nil => rfl
  | cons x o =>
    show (([x] : List Nat).filter (fun y => y != c) ++ (x :: o).filter fun y => y != x).head? = _
    by_cases h : x = c
    · rw [List.filter_cons_of_neg (by simpa using h), List.filter_nil, List.nil_append, List.filter_cons_of_neg (by simp), List.head?_filter, List.find?_cons_of_neg (by simpa using h), h]
    · rw [List.filter_cons_of_pos (by simpa using h), List.find?_cons_of_pos (by simpa using h)]
      rfl
theorem cand_is {r : Row} (h : Vr r) {w : Nat} : (cand (ot r w) (colOf r w)).head? = fo r (colOf r w) := by
  rw [cand_head]
  exact ot_find fun e he k => by rw [← k, colOf_is h.nodup he]
/-- letters as data -/
abbrev dS (cs : List Nat) : PyData := .list (cs.map fun c => .str ⟨#[c]⟩)
theorem dp_strs {K : PySem.W.Frag} {H : Hp} : ∀ cs : List Nat, DpAll K H (cs.map sg) (cs.map fun c => PyData.str ⟨#[c]⟩)
  | [] => .nil
  | c :: cs => .cons (.str _) (dp_strs cs)
theorem lay_strs : ∀ cs : List Nat, (∀ c ∈ cs, c ≤ 122) → PyData.canLayAll0 (cs.map fun c => PyData.str ⟨#[c]⟩) = true ∧ PyData.depthAll (cs.map fun c => PyData.str ⟨#[c]⟩) ≤ 1
  | [], _ => by
    simp only [List.map_nil, PyData.canLayAll0, PyData.depthAll]
    exact ⟨trivial, Nat.zero_le _⟩
  | c :: cs, h => by
    obtain ⟨h1, h2⟩ := lay_strs cs fun x hx => h x (List.mem_cons_of_mem _ hx)
    simp only [List.map_cons, PyData.canLayAll0, PyData.canLay0, PyData.depthAll, PyData.depth]
    rw [h1, str_ok (h c List.mem_cons_self)]
    exact ⟨rfl, by omega⟩
theorem shp_strs (cs : List Nat) (h : ∀ c ∈ cs, c ≤ 122) : SeqAt.shaped (dS cs) = true := by
  obtain ⟨h1, h2⟩ := lay_strs cs h
  refine Bool.and_eq_true_iff.mpr ⟨?_, decide_eq_true ?_⟩
  · simp only [PyData.canLay0]
    exact h1
  · simp only [PyData.depth]
    omega
theorem eqv_nilS (cs : List Nat) : PyData.eqv (dS cs) (.list []) = cs.isEmpty := by
  cases cs with
  | nil => rfl
  | cons n ns => simp [PyData.eqv, PyData.eqvAll]
theorem cut1 (xs : List V) : cutV xs none (some 1) = xs.take 1 := by
  unfold cutV HT.sIx
  cases xs with
  | nil => rfl
  | cons x xs => simp
end LX

/-! ### defs that show data (repr): the same promises, said where no repr runs -/
namespace LX
open PySem L2
open PySem.Spec PyProof.Rows
/-- as FnOk, for callers among whom no repr runs -/
structure FnG (P : Program) (w : World) (K : PySem.W.Frag) (mg : Str → Option Value) (base : Heap) (k : Nat) (f : Addr) (fd : FuncData) (ps : List Str) (sp : Sp) : Prop where
  len : ∀ vs H Q E, sp vs H Q E → vs.length = ps.length
  go : ∀ (A : Around) (o : List Env) (s : Shared) (H : Hp) (ar : Args) (us : List Value) (vs : List V) (Q : VK) (E : XK), Room k A → A.guards = some [] → Env0 P w K mg base A o s H →
    BindsTo s fd ar (ps.zip us) → Vals vs us → sp vs H Q E → codeAny (model P w) A (.call (.ref f) ar) (CR CX0 o P w H s Q E) s
section
variable {P : Program} {w : World} {K : PySem.W.Frag} {mg : Str → Option Value} {base : Heap} {x qual : Str} {st : Stmt} {f : Addr} {fd : FuncData} {N ps : List Str} {k : Nat} {sp : Sp}
/-- a def of the text by its body, as Fun.ok, with the word that no repr runs around it -/
theorem fnG (F : Fun K x qual st f fd) (S : FnScope N ps (defScope st)) (len : ∀ vs H Q E, sp vs H Q E → vs.length = ps.length)
    (body : ∀ (cdv : Value) (A : Around) (outer : List Env) (s : Shared) (H : Hp) (vs : List V) (Q : VK) (E : XK), Room k (A.deeper (envOfC qual (defScope st) s.heap.objs.size f cdv)) →
      (A.deeper (envOfC qual (defScope st) s.heap.objs.size f cdv)).guards = some [] → sp vs H Q E →
      ∃ t, PSs (cxOf CX0 P w K mg base N qual (defScope st) f cdv A outer s H E).nox (defBody st) t ∧ t { nx := fun _ H' => Q .non H', rt := Q } (start N vs) H) :
    FnG P w K mg base (k + 1) f fd ps sp := by
  obtain ⟨oc, od, kV, doc, pm, an, cdv, ct, osl, rfl, lk, hcd⟩ := F.ex
  constructor
  · exact len
  intro A o s H ar us vs Q E room quiet e0 bind r want
  have n := len vs H Q E want
  have KH := e0.mod.kin.keeps fun b ob e => (e0.bs b ob e).1
  have NL := e0.mod.nolimit.keeps fun b ob e => (e0.bs b ob e).1
  -- every parameter is a local or a cell
  have par : ∀ q ∈ ps.zip us, (defScope st).names.lookup q.1 = some .local ∨ ((defScope st).names.lookup q.1 = some .cell ∧ ((cellsFrom (s.heap.objs.size + 1) (defScope st).names []).lookup q.1).isSome = true) := by
    intro q hq
    have hm : q.1 ∈ ps := (List.of_mem_zip (show (q.1, q.2) ∈ ps.zip us from hq)).1
    exact (S.par q.1 hm).imp id fun c => ⟨c, PySem.W.cellsFrom_some _ _ _ (Or.inl c)⟩
  apply codeAny_call_function room.depth (KH _ _ lk) rfl S.co S.gen rfl (PySem.W.codeRec_of KH hcd)
  apply bind
  apply wpAny_newFunctionEnv_cells S.kind par
  intro env henv s1 made
  cases henv
  refine ⟨NL.keeps made.toInCall.keep, ?_⟩
  apply codeAny_func
  obtain ⟨t, der, rd⟩ := body cdv A o s H vs Q E (room.deeper _) quiet want
  have inv := inv_start (CX := CX0) (E := E) (N := N) S room.hd e0 n r made
  apply wpAny_mono (der.nox.run [] s1 (start N vs) H _ inv rd)
  · intro fl s2 hs
    cases fl with
    | brk =>
      obtain ⟨_, _, _, no⟩ := hs
      exact no.elim
    | cont =>
      obtain ⟨_, _, _, no⟩ := hs
      exact no.elim
    | next =>
      obtain ⟨σ', H', J, q⟩ := hs
      exact ⟨.non, H', J.os, J.bare, J.base, J.hok, rfl, q⟩
    | ret u =>
      obtain ⟨v, σ', H', J, rv, q⟩ := hs
      exact ⟨v, H', J.os, J.bare, J.base, J.hok, rv, q⟩
  · exact fun _ _ z => z
theorem FnG.mono {j : Nat} (F : FnG P w K mg base j f fd ps sp) (h : j ≤ k) : FnG P w K mg base k f fd ps sp := ⟨F.len, fun A o s H ar us vs Q E room => F.go A o s H ar us vs Q E (room.mono h)⟩
end
section
variable {X : Cx} {k n : Nat} {f : Addr} {fd : FuncData} {ps ks : List Str} {sp : Sp} {x : Str} {p pos : Pos} {e : Expr} {es : List Expr} {kws : List Keyword} {t tk : TA} {g : List Value → List Value → List Value} {gV : List V → List V → List V}
/-- f(e, ..), f a def that shows data -/
theorem pe_callG (F : FnG X.prog X.w X.K X.mg X.base k f fd ps sp) (room : Room k X.A) (quiet : X.A.guards = some []) (g0 : Gl X x) (g1 : X.mg x = some (.ref f)) (g2 : PySem.W.keepIn X.K (.ref f) = true) (b : Binds X.K fd ps [])
    (ha : PA X (e :: es) t) (q0 : (x == ("__debug__" : Str)) = false := by decide) (q1 : starEach (e :: es) X.env = (false, eval e X.env) :: starEach es X.env := by rfl) (q2 : (backTo pos (starEach es X.env)).any (·.1) = false := by rfl) :
    PE X (.Call (.Name x p) (e :: es) [] pos) (tCall sp [] E0 t) := by
  constructor
  intro pins s σ H Q I h
  apply wpAny_Call_Name_kw
  apply ld_glob I g0 g1 _ q0
  refine PySem.W.callWith_K (h₀ := X.base) I.ok.mod.kin g2 (thn (ha.run pos pins s σ H _ I h) ?_) q1 q2
  rintro us s1 ⟨vs, H1, J, r, q⟩
  refine ⟨J.kIn, ?_⟩
  have q' : sp vs H1 Q E0 := by rw [List.append_nil] at q; exact q
  have lu : (us ++ []).length = ps.length := by
    rw [List.append_nil, ← r.length]
    exact F.len _ _ _ _ q'
  have bd := b s1 us J.kIn lu
  rw [List.append_nil] at bd
  refine wpAny_call (codeAny_mono (F.go X.A X.stack s1 H1 ⟨us, []⟩ us vs Q E0 room quiet J.env0 bd r q') ?_)
  intro res s2 hq
  match res, hq with
  | .error _, hq => exact hq.elim
  | .ok (.ret _), hq => exact J.after hq
  | .ok .next, hq => exact hq.elim
  | .ok .brk, hq => exact hq.elim
  | .ok .cont, hq => exact hq.elim
/-- f(k = v, ..): nothing by position -/
theorem pe_callN0 (F : FnOk X.prog X.w X.K X.mg X.base CX0 k f fd ps sp) (room : Room k X.A) (g0 : Gl X x) (g1 : X.mg x = some (.ref f)) (g2 : PySem.W.keepIn X.K (.ref f) = true) (b : KBn X.K fd ps 0 ks g gV) (hk : PK X kws tk)
    (q1 : (backToKw pos (keywordEach kws X.env)).all (·.1.isSome) = true := by rfl) (q2 : (backToKw pos (keywordEach kws X.env)).filterMap (·.1) = ks := by rfl) (q0 : (x == ("__debug__" : Str)) = false := by decide)
    (q3 : ((backTo pos (starEach [] X.env)).any (·.1) || (backToKw pos (keywordEach kws X.env)).any (·.1.isNone)) = false := by rfl) :
    PE X (.Call (.Name x p) [] kws pos) (tCallN 0 ks.length sp gV E0 tNil tk) := by
  constructor
  intro pins s σ H Q I h
  apply wpAny_Call_Name_kw
  apply ld_glob I g0 g1 _ q0
  refine PySem.W.callWith_KW0 (h₀ := X.base) I.ok.mod.kin g2 q1 ?_ q3
  refine thn (hk.run pos pins s σ H _ I h) ?_
  rintro ws s2 ⟨zs, H2, J, rz, l1, l2, q⟩
  refine ⟨J.kIn, ?_⟩
  rw [q2]
  exact run_fnN (us := []) (vs := []) F room b pass0 J .nil rz l1 l2 q
/-- repr of data: none, bools, ints, texts, lists and tuples of these -/
def qRepr (K : PySem.W.Frag) : List V → Hp → VK → Prop := fun vs H Q => ∃ (v : V) (d : PyData), vs = [v] ∧ (∃ a, v = .ref a) ∧ Dp K H v d ∧ d.showable = true ∧ d.hasDict = false ∧ d.depth ≤ 20 ∧ d.shown.length ≤ sizeLine ∧ Q (.str d.shown) H
theorem krepr {K : PySem.W.Frag} (quiet : X.A.guards = some []) (hu : X.A.units + 64 < cLine) (h : X.K = K := by rfl) : CallR X (.builtin "repr") (qRepr K) := by
  subst h
  intro pins s σ H vs us Q I r want
  obtain ⟨v, d, rfl, ⟨a, rfl⟩, dp, sh, nd, dd, sz, q⟩ := want
  obtain ⟨u, rfl, ru⟩ : ∃ u, us = [u] ∧ RelV (.ref a) u := by
    cases r with
    | cons r1 r2 =>
      cases r2
      exact ⟨_, rfl, r1⟩
  cases ru
  obtain ⟨as, rs⟩ := Dp.reads I d (.ref a) (.ref a) dp rfl
  refine PySem.repr_of_reads' rs sh (fun z => by rw [nd] at z; cases z) quiet (by omega) (fun _ _ e => e) ?_ sz
  intro h' y tk keep
  exact ⟨.str d.shown, H, I.kept keep, ⟨y, rfl⟩, q⟩
end
/-! ### the law's own head, for a law that shows data -/
/-- what is tracked at the start: the script, locked, if it is none of the module's own objects -/
def H0 (K : PySem.W.Frag) (a : Addr) (o : Obj) (xs : List V) : Hp := fun b => if b = a ∧ (K.lookup a).isNone = true then some (.frz o (.lst xs)) else none
theorem H0_some {K : PySem.W.Frag} {a b : Addr} {o : Obj} {xs : List V} {u : HO} (h : H0 K a o xs b = some u) : b = a ∧ K.lookup a = none ∧ u = .frz o (.lst xs) := by
  unfold H0 at h
  by_cases c : b = a ∧ (K.lookup a).isNone = true
  · rw [if_pos c] at h
    exact ⟨c.1, Option.isNone_iff_eq_none.mp c.2, (Option.some.inj h).symm⟩
  · rw [if_neg c] at h
    cases h
theorem law_callG {P : Program} {w : World} {K : PySem.W.Frag} {mg mb : Str → Option Value} {k : Nat} {fa a : Addr} {fd : FuncData} {x : Str} {sp : Sp} {s₁ : Shared} {vs : List Value} {ns : List Int} (inK : K.In s₁.heap) (gm : s₁.heap.Ns mainGlobals mg) (gb : s₁.heap.Ns builtinsNs mb)
    (bb : ∀ y : Str, y ≠ "__name__" → mb y = bootBuiltins y) (nl : s₁.heap.NoLimit) (gens : s₁.gens = #[]) (at_a : s₁.heap.get? a = some { cls := .type "list", data := .seq vs.toArray }) (hin : IntsAre vs ns) (few : ns.length ≤ sizeLine) (room : Room k callerA)
    (F : ∀ base : Heap, K.In base → base.Ns mainGlobals mg → FnG P w K mg base k fa fd [x] sp) (bind : ∀ (s : Shared) (u : Value), BindsTo s fd ⟨[u], []⟩ [(x, u)])
    (good : ∀ H : Hp, Only H → SqL K H a (ns.map V.int) → sp [.ref a] H (fun v _ => v = .bl true) fun _ _ _ => False) :
    codeAny (model P w) callerA (.call (.ref fa) ⟨[.ref a], []⟩) (fun r s' => r = .ok (.ret (.bool true)) ∧ OldK s₁.heap s'.heap ∧ s'.os = s₁.os ∧ AllBare s'.gens) s₁ := by
  have rv := vals_ints hin
  have nv := hin.length
  generalize ho : ({ cls := .type "list", data := .seq vs.toArray } : Obj) = o at at_a
  have only : Only (H0 K a o (ns.map V.int)) := fun b => by
    cases q : H0 K a o (ns.map V.int) b with
    | none => exact Or.inl rfl
    | some u => exact Or.inr ⟨o, _, by rw [(H0_some q).2.2]⟩
  have seq : SqL K (H0 K a o (ns.map V.int)) a (ns.map V.int) := by
    cases q : K.lookup a with
    | none => exact Or.inl (Or.inr ⟨o, if_pos ⟨rfl, by rw [q]; rfl⟩⟩)
    | some o' =>
      have e := inK a o' q
      rw [at_a] at e
      cases e
      subst ho
      exact Or.inr ⟨_, vs.toArray, _, q, rfl, rfl, rfl, by rw [List.size_toArray, nv]; exact few, by simpa using rv⟩
  have held : HOk P w (H0 K a o (ns.map V.int)) s₁.heap := fun b u q => by
    obtain ⟨rfl, _, rfl⟩ := H0_some q
    subst ho
    exact ⟨at_a, by rw [List.length_map]; exact few, vs, _, rv, at_a⟩
  -- what is not the script stands in the base
  have out : ∀ {b : Addr} {ob : Obj}, s₁.heap.get? b = some ob → H0 K a o (ns.map V.int) b = none → (hidT s₁.heap (H0 K a o (ns.map V.int))).get? b = some ob := fun e n => hidT_get e n
  have dicts : ∀ {b : Addr} {ob : Obj} {es : Array DictEntry} {n : Nat}, s₁.heap.get? b = some ob → ob.data = .dict es n → H0 K a o (ns.map V.int) b = none := by
    intro b ob es n e d
    cases q : H0 K a o (ns.map V.int) b with
    | none => rfl
    | some u =>
      obtain ⟨rfl, _, _⟩ := H0_some q
      rw [at_a] at e
      cases e
      subst ho
      cases d
  have names : ∀ {b : Addr} {m : Str → Option Value}, s₁.heap.Ns b m → (hidT s₁.heap (H0 K a o (ns.map V.int))).Ns b m := by
    rintro b m ⟨ob, es, n, e, d, z⟩
    exact ⟨ob, es, n, out e (dicts e d), d, z⟩
  have kb : K.In (hidT s₁.heap (H0 K a o (ns.map V.int))) := fun b ob e => by
    refine out (inK b ob e) ?_
    cases q : H0 K a o (ns.map V.int) b with
    | none => rfl
    | some u =>
      obtain ⟨rfl, q2, _⟩ := H0_some q
      rw [q2] at e
      cases e
  obtain ⟨mc, c1, c2⟩ := nl
  have e0 : Env0 P w K mg (hidT s₁.heap (H0 K a o (ns.map V.int))) callerA [] s₁ (H0 K a o (ns.map V.int)) := {
    frames := rfl
    mod := ⟨kb, names gm, ⟨mb, names gb, bb⟩, ⟨mc, names c1, c2⟩⟩
    bs := fun b ob e => of_hidT e
    bsz := Nat.le_of_eq (hidT_size _ _)
    funs := trivial
    frf := fun b hb => absurd (show b ∈ ([] : List Addr) from hb) List.not_mem_nil
    hok := held
    bare := .of_eq gens }
  refine codeAny_mono ((F _ kb (names gm)).go callerA [] s₁ (H0 K a o (ns.map V.int)) ⟨[.ref a], []⟩ [.ref a] [.ref a] _ _ room rfl e0 (bind s₁ (.ref a)) (.cons rfl .nil) (good _ only seq)) ?_
  intro res s' hq
  match res, hq with
  | .error _, hq => exact hq.elim
  | .ok .next, hq => exact hq.elim
  | .ok .brk, hq => exact hq.elim
  | .ok .cont, hq => exact hq.elim
  | .ok (.ret u), hq =>
    obtain ⟨v, H', os, bare, un, held', r', q⟩ := hq
    have q' : v = .bl true := q
    subst q'
    cases (show u = Value.bool true from r')
    refine ⟨rfl, OldK.of_keep fun b ob e => ?_, os, bare⟩
    cases z : H0 K a o (ns.map V.int) b with
    | none => exact un.keep b ob e z (fun y => absurd (show b ∈ ([] : List Addr) from y) List.not_mem_nil) List.not_mem_nil
    | some y =>
      obtain ⟨rfl, _, rfl⟩ := H0_some z
      obtain ⟨e1, _⟩ := held _ _ z
      obtain ⟨e2, _⟩ := held' _ _ (un.frzs _ _ _ z)
      rw [e] at e1
      cases e1
      exact e2
theorem walk_ofG {l : PySem.W.OpenLaw} {n k : Nat} {q : Program} {loose : List Str} {XP : (Str → Option Value) → Heap → Prop} {YP : World → Heap → Prop} {d : DefRec} {K : Params → PySem.W.Frag} {sp : PySem.W.Frag → Sp} {x : Str} (hn : l.most = some n) (few : n ≤ sizeLine)
    (nodef : d.params.defaults = []) (room : Room k callerA) (hY : ∀ (w : World) (h : Heap), YP w h → (K w.params).In h)
    (F : ∀ (w : World) (mg : Str → Option Value) (fa : Addr) (h : Heap), (K w.params).In h → h.Ns mainGlobals mg → mg d.name = some (.ref fa) → ∃ fd : FuncData, (∀ (s : Shared) (u : Value), BindsTo s fd ⟨[u], []⟩ [(x, u)]) ∧
      ∀ base : Heap, (K w.params).In base → base.Ns mainGlobals mg → FnG l.prog w (K w.params) mg base k fa fd [x] (sp (K w.params)))
    (good : ∀ (K : PySem.W.Frag) (H : Hp) (a : Addr) (ns : List Int), ns.length ≤ n → Only H → SqL K H a (ns.map V.int) → sp K [.ref a] H (fun v _ => v = .bl true) fun _ _ _ => False) :
    PySem.W.WalkO q loose XP YP l.row.toRowW d [] (fun f vs => PySem.call f vs) := by
  apply Att.attach_call hn nodef
  intro w s₀ s₁ mg mb fa o pm cd doc a vs ns G Y ho hd hcd hmg at_a hin most gens
  have inK := hY w _ Y
  obtain ⟨fd, bind, hF⟩ := F w mg fa _ inK G.T.g hmg
  exact law_callG inK G.T.g G.T.b G.T.builtins G.T.nolimit gens at_a hin (Nat.le_trans most few) room hF bind fun H only seq => good _ H a ns most only seq
/-! ### calls with keywords: the values in the parameters' order -/
def pick {α : Type} (ix : List Nat) (l : List α) : List α := ix.filterMap (l[·]?)
theorem vals_at {vs : List V} {us : List Value} (h : Vals vs us) : ∀ i : Nat, (vs[i]? = none ∧ us[i]? = none) ∨ ∃ v u, vs[i]? = some v ∧ us[i]? = some u ∧ RelV v u := by
  induction h with
  | nil => exact fun i => Or.inl ⟨rfl, rfl⟩
  | cons r _ ih =>
    intro i
    cases i with
    | zero => exact Or.inr ⟨_, _, rfl, rfl, r⟩
    | succ i => exact ih i
theorem vals_pick {vs : List V} {us : List Value} (h : Vals vs us) : ∀ ix : List Nat, Vals (pick ix vs) (pick ix us)
  | [] => .nil
  | i :: ix => by
    unfold pick
    rcases vals_at h i with ⟨h1, h2⟩ | ⟨v, u, h1, h2, r⟩
    · rw [List.filterMap_cons_none h1, List.filterMap_cons_none h2]
      exact vals_pick h ix
    · rw [List.filterMap_cons_some h1, List.filterMap_cons_some h2]
      exact .cons r (vals_pick h ix)
theorem _root_.L2.Fun.kb {K : PySem.W.Frag} {x qual : Str} {st : Stmt} {f : Addr} {fd : FuncData} {ps ks : List Str} {n : Nat} {ix : List Nat} (F : Fun K x qual st f fd)
    (h : ∀ (kV doc pm : Value) (an : Option Addr) (cdv ct : Value) (us ws : List Value), us.length = n → ws.length = ks.length → bindArgs (PySem.W.fnOf x qual (defArgs st) (defBody st) (defScope st) .none kV doc pm an cdv ct) ⟨us, ks.zip ws⟩ = pure (ps.zip (pick ix (us ++ ws)))) :
    KBn K fd ps n ks (fun us ws => pick ix (us ++ ws)) (fun vs zs => pick ix (vs ++ zs)) := by
  obtain ⟨oc, od, kV, doc, pm, an, cdv, ct, osl, rfl, lk, hcd⟩ := F.ex
  exact ⟨fun s us ws _ l1 l2 => .of_eq (h kV doc pm an cdv ct us ws l1 l2), fun r1 r2 => vals_pick (r1.append r2) ix⟩
theorem rd_callN0 {σ : L2.St} {H : Hp} {Q : VK} {m : Nat} {sp : Sp} {gV : List V → List V → List V} {E : XK} {tk : TA} (q : tk σ H fun zs H2 => zs.length = m ∧ sp (gV [] zs) H2 Q E) : tCallN 0 m sp gV E tNil tk σ H Q := by
  show tk σ H fun zs H2 => ([] : List V).length = 0 ∧ zs.length = m ∧ sp (gV [] zs) H2 Q E
  have e : (fun (zs : List V) (H2 : Hp) => ([] : List V).length = 0 ∧ zs.length = m ∧ sp (gV [] zs) H2 Q E) = fun zs H2 => zs.length = m ∧ sp (gV [] zs) H2 Q E := by
    funext zs H2
    exact propext ⟨fun z => z.2, fun z => ⟨rfl, z⟩⟩
  rw [e]
  exact q
/-! ### what can be shown: no deeper than n, the leaves no longer than B, no heavier than m -/
structure Sh (B n m : Nat) (d : PyData) : Prop where
  sh : d.showable = true
  nd : d.hasDict = false
  dp : d.depth ≤ n
  ls : d.leavesShort B = true
  wt : d.weight ≤ m
theorem sh_all {B n m : Nat} : ∀ {xs : List PyData}, (∀ x ∈ xs, Sh B n m x) → PyData.showableAll xs = true ∧ PyData.hasDictAll xs = false ∧ PyData.depthAll xs ≤ n ∧ PyData.leavesShortAll B xs = true ∧ PyData.weightAll xs ≤ xs.length * (m + 1)
  | [], _ => by
    simp only [PyData.showableAll, PyData.hasDictAll, PyData.depthAll, PyData.leavesShortAll, PyData.weightAll]
    exact ⟨trivial, trivial, Nat.zero_le _, trivial, Nat.zero_le _⟩
  | x :: xs, h => by
    obtain ⟨a1, a2, a3, a4, a5⟩ := h x List.mem_cons_self
    obtain ⟨b1, b2, b3, b4, b5⟩ := sh_all fun y hy => h y (List.mem_cons_of_mem _ hy)
    have e : (xs.length + 1) * (m + 1) = xs.length * (m + 1) + (m + 1) := Nat.succ_mul ..
    simp only [PyData.showableAll, PyData.hasDictAll, PyData.depthAll, PyData.leavesShortAll, PyData.weightAll, List.length_cons, a1, a2, a4, b1, b2, b4, Bool.and_self, Bool.or_self, true_and, e]
    omega
theorem Sh.list {B n m : Nat} {xs : List PyData} (h : ∀ x ∈ xs, Sh B n m x) : Sh B (n + 1) (xs.length * (m + 1)) (.list xs) := by
  obtain ⟨a1, a2, a3, a4, a5⟩ := sh_all h
  exact ⟨by simpa only [PyData.showable] using a1, by simpa only [PyData.hasDict] using a2, by simp only [PyData.depth]; omega, by simpa only [PyData.leavesShort] using a4, by simpa only [PyData.weight] using a5⟩
theorem Sh.tuple {B n m : Nat} {xs : List PyData} (h : ∀ x ∈ xs, Sh B n m x) : Sh B (n + 1) (xs.length * (m + 1)) (.tuple xs) := by
  obtain ⟨a1, a2, a3, a4, a5⟩ := sh_all h
  exact ⟨by simpa only [PyData.showable] using a1, by simpa only [PyData.hasDict] using a2, by simp only [PyData.depth]; omega, by simpa only [PyData.leavesShort] using a4, by simpa only [PyData.weight] using a5⟩
theorem Sh.mono {B n m n' m' : Nat} {d : PyData} (h : Sh B n m d) (h1 : n ≤ n') (h2 : m ≤ m') : Sh B n' m' d := ⟨h.sh, h.nd, Nat.le_trans h.dp h1, h.ls, Nat.le_trans h.wt h2⟩
theorem Sh.none {B : Nat} : Sh B 0 0 .none := ⟨by simp only [PyData.showable], by simp only [PyData.hasDict], by simp only [PyData.depth]; omega, by simp only [PyData.leavesShort], by simp only [PyData.weight]; omega⟩
theorem Sh.chr {B c : Nat} (h : c ≤ 122) : Sh B 0 1 (.str ⟨#[c]⟩) := ⟨by simp only [PyData.showable], by simp only [PyData.hasDict], by simp only [PyData.depth]; omega, by
  simp only [PyData.leavesShort]
  show [c].all (fun c => decide (c < 16 ^ 8)) = true
  have : c < 16 ^ 8 := Nat.lt_of_le_of_lt h (by decide)
  simp only [List.all_cons, List.all_nil, Bool.and_true, decide_eq_true_eq]
  exact this, by simp only [PyData.weight]; exact Nat.le_refl 1⟩
theorem Sh.int {i : Int} (h : i.natAbs < 10 ^ 12) : Sh 13 0 40 (.int i) := by
  have l : i.natAbs.log2 < 40 := by
    by_cases z : i.natAbs = 0
    · rw [z]
      decide
    · exact (Nat.log2_lt z).mpr (Nat.lt_of_lt_of_le h (by decide))
  refine ⟨?_, by simp only [PyData.hasDict], by simp only [PyData.depth]; omega, ?_, ?_⟩
  · simp only [PyData.showable, decide_eq_true_eq]
    omega
  · simp only [PyData.leavesShort, decide_eq_true_eq]
    exact PyData.shown_int_le h
  · simp only [PyData.weight]
    split
    · omega
    · omega
theorem Sh.fits {n m : Nat} {d : PyData} (h : Sh 13 n m d) (hm : m ≤ 2 ^ 20) : d.shown.length ≤ sizeLine := PyData.shown_fits (by decide) (by decide) h.ls (Nat.le_trans h.wt hm)
theorem rd_repr {K : PySem.W.Frag} {H : Hp} {Q : VK} {a : Addr} {n m : Nat} {d : PyData} (hd : Dp K H (.ref a) d) (h : Sh 13 n m d) (hn : n ≤ 20) (hm : m ≤ 2 ^ 20) (q : Q (.str d.shown) H) : qRepr K [.ref a] H Q :=
  ⟨_, d, rfl, ⟨a, rfl⟩, hd, h.sh, h.nd, Nat.le_trans h.dp hn, h.fits hm, q⟩
theorem sh_row {r : Row} (h : Vr r) : Sh 13 2 (60 * 83) (dR r) := by
  have e : ∀ x ∈ r.map dE, Sh 13 1 82 x := fun x hx => by
    obtain ⟨y, hy, rfl⟩ := List.mem_map.mp hx
    refine (Sh.tuple (xs := [.int (y.1 : Int), .str ⟨#[y.2]⟩]) (n := 0) (m := 40) fun z hz => ?_).mono (Nat.le_refl _) (show 2 * 41 ≤ 82 by decide)
    have hl := h.col y hy
    have hp := h.lt hy
    have h60 := h.n2
    rcases List.mem_cons.mp hz with c | c
    · rw [c]
      exact Sh.int (by have : (10 : Nat) ^ 12 = 1000000000000 := by decide
                       omega)
    · rw [List.mem_singleton.mp c]
      exact (Sh.chr hl.2).mono (Nat.le_refl _) (by decide)
  refine (Sh.list e).mono (Nat.le_refl _) ?_
  rw [List.length_map]
  exact Nat.mul_le_mul_right 83 h.n2
/-- letters or None -/
def dO : Option Nat → PyData
  | none => .none
  | some c => .str ⟨#[c]⟩
theorem dp_opt {K : PySem.W.Frag} {H : Hp} (o : Option Nat) : Dp K H (oV o) (dO o) := by
  cases o with
  | none => exact .non
  | some c => exact .str _
theorem dp_opts {K : PySem.W.Frag} {H : Hp} : ∀ os : List (Option Nat), DpAll K H (os.map oV) (os.map dO)
  | [] => .nil
  | o :: os => .cons (dp_opt o) (dp_opts os)
theorem sh_opt {o : Option Nat} (h : ∀ c, o = some c → c ≤ 122) : Sh 13 0 1 (dO o) := by
  cases o with
  | none => exact Sh.none.mono (Nat.le_refl _) (by decide)
  | some c => exact Sh.chr (h c rfl)
theorem sh_opts {os : List (Option Nat)} (h : ∀ c, some c ∈ os → c ≤ 122) : Sh 13 1 (os.length * 2) (.list (os.map dO)) := by
  have := Sh.list (xs := os.map dO) (n := 0) (m := 1) (B := 13) fun x hx => by
    obtain ⟨o, ho, rfl⟩ := List.mem_map.mp hx
    exact sh_opt fun c e => h c (by rw [← e]; exact ho)
  rw [List.length_map] at this
  exact this
end LX

/-! ### a source of draws that counts them -/
namespace LX
open PySem L2
structure SrcN (H : Hp) (p : Addr) (b : Nat) : Prop where
  ex : ∃ s0 s1 s2 : Int, H p = some (.lst [.int s0, .int s1, .int s2]) ∧ s1.natAbs < 2 ^ 400 ∧ s2.natAbs ≤ b
theorem SrcN.src {H : Hp} {p : Addr} {b : Nat} (h : SrcN H p b) : Src H p :=
  let ⟨s0, s1, s2, h1, h2, _⟩ := h.ex
  ⟨s0, s1, s2, h1, h2⟩
theorem SrcN.same {H H' : Hp} {p : Addr} {b : Nat} (h : SrcN H p b) (s : Same H H') : SrcN H' p b :=
  let ⟨s0, s1, s2, h1, h2⟩ := h.ex
  ⟨s0, s1, s2, s _ _ h1, h2⟩
theorem SrcN.mono {H : Hp} {p : Addr} {b c : Nat} (h : SrcN H p b) (k : b ≤ c) : SrcN H p c :=
  let ⟨s0, s1, s2, h1, h2, h3⟩ := h.ex
  ⟨s0, s1, s2, h1, h2, Nat.le_trans h3 k⟩
theorem SrcN.not_none {H : Hp} {p q : Addr} {b : Nat} (h : SrcN H p b) (hq : H q = none) : q ≠ p := h.src.not_none hq
theorem SrcN.lst {H : Hp} {p : Addr} {b : Nat} (h : SrcN H p b) : ∃ xs, H p = some (.lst xs) := h.src.lst
/-- kept where a list elsewhere changes -/
theorem SrcN.off {H : Hp} {p q : Addr} {b : Nat} {o : HO} (h : SrcN H p b) (n : q ≠ p) : SrcN (upd H q o) p b :=
  let ⟨s0, s1, s2, h1, h2⟩ := h.ex
  ⟨s0, s1, s2, by rw [upd_ne n.symm]; exact h1, h2⟩
theorem mod_small {x m : Int} {k : Nat} (h0 : 0 < m) (h : m ≤ 2 ^ k) : (x % m).natAbs < 2 ^ k := by
  have a0 := Int.emod_nonneg x (show m ≠ 0 by omega)
  have a1 := Int.emod_lt_of_pos x h0
  have e : ((2 ^ k : Nat) : Int) = (2 : Int) ^ k := by
    rw [Int.natCast_pow]
    rfl
  omega
theorem add_small {x y : Int} {j k m : Nat} (hx : x.natAbs < 2 ^ j) (hy : y.natAbs < 2 ^ k) (h1 : j < m) (h2 : k < m) : (x + y).natAbs < 2 ^ m := by
  obtain ⟨n, rfl⟩ : ∃ n, m = n + 1 := ⟨m - 1, by omega⟩
  have a := Nat.pow_le_pow_right (show 0 < 2 by decide) (show j ≤ n by omega)
  have b := Nat.pow_le_pow_right (show 0 < 2 by decide) (show k ≤ n by omega)
  rw [Nat.pow_succ]
  omega
theorem mul_small {x y : Int} {j k m : Nat} (hx : x.natAbs < 2 ^ j) (hy : y.natAbs < 2 ^ k) (h : j + k ≤ m) : (x * y).natAbs < 2 ^ m := by
  rw [Int.natAbs_mul]
  refine Nat.lt_of_lt_of_le ?_ (Nat.pow_le_pow_right (show 0 < 2 by decide) h)
  rw [Nat.pow_add]
  exact Nat.mul_lt_mul'' hx hy
end LX

/-! ### list(zip(xs, ys)), two lists of one length: new tuples in a new list -/
namespace LX
open PySem PySem.Spec PyProof.Rows L2
theorem Un.more {fs : List Addr} {H H' : Hp} {h h' : Heap} (k : ∀ b u, h.get? b = some u → h'.get? b = some u) (s : Same H H') (new : ∀ b, H b = none → b < h.objs.size → H' b = none) : Un fs [] H H' h h' where
  keep := fun b u q _ _ _ => k b u q
  slot := fun b u q _ _ _ => ⟨u.slots, k b u q⟩
  free := fun b u q n _ => new b n (Heap.lt_size q)
  there := fun b u q _ => ⟨u, k b u q⟩
  tups := fun b xs q => s b _ q
  frzs := fun b u xs q => s b _ q
  tbls := fun b ps q => ⟨#[], by rw [s b _ q]; simp⟩
theorem HOk.more {P : Program} {w : World} {H H' : Hp} {h h' : Heap} (x : HOk P w H h) (k : ∀ b u, h.get? b = some u → h'.get? b = some u) (s : Same H H') (new : ∀ b o, H b = none → H' b = some o → ObjOk P w H' h' b o) : HOk P w H' h' := fun b o e => by
  cases q : H b with
  | none => exact new b o q e
  | some u =>
    have e2 := s b _ q
    rw [e] at e2
    cases e2
    exact (x b o q).stay (fun c v _ z => k c v z) (fun c z => s c _ z) fun c xs z => s c _ z
/-- the zip z amid its walk: i pairs are out, all above B -/
structure ZAt (h : Heap) (z TI TO i1 i2 l1 l2 B : Addr) (xs ys : Array Value) (i : Nat) (Ts : List Addr) : Prop where
  pr : IsPair h TI (.ref i1) (.ref i2)
  w1 : h.IsListIter i1 l1 i
  w2 : h.IsListIter i2 l2 i
  a1 : h.IsList l1 xs
  a2 : h.IsList l2 ys
  zp : (IsZip h z TI TO .none ∧ ∃ a b, IsPair h TO a b) ∨ ∃ T f oT, IsZipHeld h z TI TO T f ∧ h.get? T = some oT ∧ B ≤ T
  len : Ts.length = i
  nd : Ts.Nodup
  out : ∀ (j : Nat) (T : Addr), Ts[j]? = some T → B ≤ T ∧ ∃ x y, xs[j]? = some x ∧ ys[j]? = some y ∧ IsPair h T x y
theorem pairKeep {h h' : Heap} {T : Addr} {x y : Value} (p : IsPair h T x y) (e : ∀ o, h.get? T = some o → h'.get? T = some o) : IsPair h' T x y := e _ p
section
variable {P : Program} {w : World} {A : Around} {R : Result → Shared → Prop} {z TI TO i1 i2 l1 l2 S B : Addr} {xs ys : Array Value} {res : Value}
theorem zipLoop (hh : A.in1.handled = none) (D : ZipApart z TI TO i1 i2 l1 l2) (same : ys.size = xs.size) (few : xs.size ≤ sizeLine) (lt : ∀ b, b = z ∨ b = TI ∨ b = TO ∨ b = i1 ∨ b = i2 ∨ b = l1 ∨ b = l2 → b < B) (ltS : S < B) (offS : S ≠ z ∧ S ≠ TI ∧ S ≠ TO ∧ S ≠ i1 ∧ S ≠ i2 ∧ S ≠ l1 ∧ S ≠ l2) :
    ∀ (m i : Nat) (s : Shared) (Ts : List Addr), i + m = xs.size → B ≤ s.heap.objs.size → ZAt s.heap z TI TO i1 i2 l1 l2 B xs ys i Ts → (∃ c, s.heap.get? S = some (seqObj "list" (Ts.map Value.ref).toArray c)) →
      (∀ (h' : Heap) (tk : Nat) (Us : List Addr) (c' : Nat), Us.length = xs.size → Us.Nodup → (∀ (j : Nat) (T : Addr), Us[j]? = some T → B ≤ T ∧ ∃ x y, xs[j]? = some x ∧ ys[j]? = some y ∧ IsPair h' T x y) → h'.get? S = some (seqObj "list" (Us.map Value.ref).toArray c') →
        (∀ b o, b ≠ S → b ≠ z → b ≠ TO → b ≠ i1 → b ≠ i2 → s.heap.get? b = some o → h'.get? b = some o) → R (.ok (.ret res)) { s with heap := h', toks := tk }) →
      codeAny (model P w) A (.builtin "list.extend.loop" ⟨[.ref S, .ref z, res], []⟩) R s := by
  have lz := lt z (by simp)
  have lTI := lt TI (by simp)
  have lTO := lt TO (by simp)
  have li1 := lt i1 (by simp)
  have li2 := lt i2 (by simp)
  have ll1 := lt l1 (by simp)
  have ll2 := lt l2 (by simp)
  obtain ⟨oz, oTI, oTO, oi1, oi2, ol1, ol2⟩ := offS
  intro m
  induction m with
  | zero =>
    intro i s Ts hi hB Z ⟨c, hS⟩ hR
    have e : i = xs.size := by omega
    subst e
    have off : xs[xs.size]? = none ∨ ys[xs.size]? = none := Or.inl (Array.getElem?_eq_none (Nat.le_refl _))
    refine codeAny_builtin PySem.F.entry_extend_loop ?_
    rw [Around.under_plainId PySem.F.plain_extend_loop _]
    show wpAny _ A.in1 (pyNext (.ref z) >>= _) _ _ s
    have fin : ∀ h' : Heap, (∀ b o, b ≠ z → b ≠ TO → b ≠ i1 → b ≠ i2 → s.heap.get? b = some o → h'.get? b = some o) → R (.ok (.ret res)) { s with heap := h' } := fun h' k => by
      refine hR h' s.toks Ts c Z.len Z.nd (fun j T hj => ?_) (k _ _ oz oTO oi1 oi2 hS) fun b o _ b1 b2 b3 b4 e => k b o b1 b2 b3 b4 e
      obtain ⟨q1, x, y, q2, q3, q4⟩ := Z.out j T hj
      exact ⟨q1, x, y, q2, q3, pairKeep q4 fun o e => k T o (Nat.ne_of_gt (Nat.lt_of_lt_of_le lz q1)) (Nat.ne_of_gt (Nat.lt_of_lt_of_le lTO q1)) (Nat.ne_of_gt (Nat.lt_of_lt_of_le li1 q1)) (Nat.ne_of_gt (Nat.lt_of_lt_of_le li2 q1)) e⟩
    rcases Z.zp with ⟨z1, a, b, z2⟩ | ⟨T, f, oT, z1, z2, z3⟩
    · exact wpAny_bind (wpAny_pyNext_zip_end hh D z1 Z.pr z2 Z.w1 Z.w2 Z.a1 Z.a2 off fun h' k => wpAny_pure (fin h' fun b o b1 b2 b3 b4 e => k b o b1 b2 b3 b4 e))
    · exact wpAny_bind (wpAny_pyNext_zip_end_held hh D z1 z2 Z.pr Z.w1 Z.w2 Z.a1 Z.a2 off fun h' k => wpAny_pure (fin h' fun b o b1 _ b3 b4 e => k b o b1 b3 b4 e))
  | succ m ih =>
    intro i s Ts hi hB Z ⟨c, hS⟩ hR
    have ex : xs[i]? = some xs[i] := Array.getElem?_eq_getElem (by omega)
    have ey : ys[i]? = some ys[i] := Array.getElem?_eq_getElem (by omega)
    refine codeAny_builtin PySem.F.entry_extend_loop ?_
    rw [Around.under_plainId PySem.F.plain_extend_loop _]
    show wpAny _ A.in1 (pyNext (.ref z) >>= _) _ _ s
    have szT : (Ts.map Value.ref).toArray.size = i := by rw [List.size_toArray, List.length_map, Z.len]
    have turn : ∀ h' : Heap, ((∃ T f oT, IsZipHeld h' z TI TO T f ∧ h'.get? T = some oT ∧ B ≤ T)) → h'.IsListIter i1 l1 (i + 1) → h'.IsListIter i2 l2 (i + 1) → IsPair h' s.heap.objs.size xs[i] ys[i] → h'.objs.size = s.heap.objs.size + 1 →
        (∀ b o, b ≠ z → b ≠ TO → b ≠ i1 → b ≠ i2 → s.heap.get? b = some o → h'.get? b = some o) →
        wpAny (model P w) A.in1 (updateSeq S (·.push (.ref s.heap.objs.size)) >>= fun _ => again (.builtin "list.extend.loop" ⟨[.ref S, .ref z, res], []⟩))
          (fun fin s' => match fin with | .done f => R (.ok f) s' | .again c' => c'.quiet = true ∧ codeAny (model P w) A c' R s') (fun e s' => R (.error e) s') { s with heap := h' } := by
      intro h' hz hw1 hw2 hp hsz k
      have hS1 := k _ _ oz oTO oi1 oi2 hS
      have lim : i + 1 ≤ sizeLine := by omega
      refine wpAny_bind (wpAny_updateSeq hS1 rfl ?_ (by rw [szT]; exact Nat.le_trans (Nat.le_of_lt (by omega : i < xs.size)) few) (by show ((Ts.map Value.ref).toArray.push _).size ≤ sizeLine + 1; rw [Array.size_push, szT]; omega))
      refine wpAny_pure ⟨plainId_quiet PySem.F.plain_extend_loop _, ?_⟩
      have other : ∀ b o, b ≠ S → h'.get? b = some o → (h'.update S (Obj.mapSeq (·.push (Value.ref s.heap.objs.size)))).get? b = some o := fun b o nb e => (Heap.get?_update_other _ _ (Ne.symm nb)).trans e
      have nS : ∀ {b : Addr}, B ≤ b → b ≠ S := fun q => Nat.ne_of_gt (Nat.lt_of_lt_of_le ltS q)
      refine ih (i + 1) _ (Ts ++ [s.heap.objs.size]) (by omega) (by show B ≤ (h'.update S _).objs.size; rw [Heap.size_update, hsz]; exact Nat.le_trans hB (Nat.le_succ _)) ?_ ?_ fun h2 tk Us c2 u1 u0 u2 u3 u4 => ?_
      · obtain ⟨T, f, oT, z1, z2, z3⟩ := hz
        exact { pr := pairKeep Z.pr fun o e => other _ o (Ne.symm oTI) (k _ o D.TIz D.TITO D.TIi1 D.TIi2 e), w1 := hw1.at fun o e => other _ o (Ne.symm oi1) e, w2 := hw2.at fun o e => other _ o (Ne.symm oi2) e
                a1 := Z.a1.at fun o e => other _ o (Ne.symm ol1) (k _ o D.l1z D.l1TO D.l1i1 D.l1i2 e), a2 := Z.a2.at fun o e => other _ o (Ne.symm ol2) (k _ o D.l2z D.l2TO D.l2i1 D.l2i2 e)
                zp := Or.inr ⟨T, f, oT, other _ _ (Ne.symm oz) z1, other _ _ (nS z3) z2, z3⟩
                len := by rw [List.length_append, Z.len]; rfl
                nd := List.nodup_append.mpr ⟨Z.nd, List.nodup_cons.mpr ⟨List.not_mem_nil, List.nodup_nil⟩, fun T hT U hU e => by
                  obtain ⟨j, hj⟩ := List.mem_iff_getElem?.mp hT
                  obtain ⟨_, x, y, _, _, q4⟩ := Z.out j T hj
                  rw [List.mem_singleton] at hU
                  have l := Heap.lt_size q4
                  rw [e, hU] at l
                  exact Nat.lt_irrefl _ l⟩
                out := fun j T hj => by
                  by_cases c : j < Ts.length
                  · rw [List.getElem?_append_left c] at hj
                    obtain ⟨q1, x, y, q2, q3, q4⟩ := Z.out j T hj
                    exact ⟨q1, x, y, q2, q3, pairKeep q4 fun o e => other T o (nS q1) (k T o (Nat.ne_of_gt (Nat.lt_of_lt_of_le lz q1)) (Nat.ne_of_gt (Nat.lt_of_lt_of_le lTO q1)) (Nat.ne_of_gt (Nat.lt_of_lt_of_le li1 q1)) (Nat.ne_of_gt (Nat.lt_of_lt_of_le li2 q1)) e)⟩
                  · have len := Z.len
                    rw [List.getElem?_append_right (by omega)] at hj
                    have hj2 := (List.getElem?_eq_some_iff.mp hj).1
                    rw [List.length_singleton] at hj2
                    have ej : j = i := by omega
                    subst ej
                    rw [show j - Ts.length = 0 by omega] at hj
                    injection hj with hj
                    subst hj
                    exact ⟨hB, _, _, ex, ey, pairKeep hp fun o e => other _ o (nS hB) e⟩ }
      · have q := Heap.get?_update_self (Obj.mapSeq (·.push (Value.ref s.heap.objs.size))) hS1 rfl
        refine ⟨_, q.trans (congrArg (fun l : Array Value => some (seqObj "list" l _)) ?_)⟩
        show (Ts.map Value.ref).toArray.push (Value.ref s.heap.objs.size) = ((Ts ++ [s.heap.objs.size]).map Value.ref).toArray
        rw [List.push_toArray, List.map_append]
        rfl
      · exact hR h2 tk Us c2 u1 u0 u2 u3 fun b o b0 b1 b2 b3 b4 e => u4 b o b0 b1 b2 b3 b4 (other b o b0 (k b o b1 b2 b3 b4 e))
    rcases Z.zp with ⟨z1, a, b, z2⟩ | ⟨T, f, oT, z1, z2, z3⟩
    · refine wpAny_bind (wpAny_pyNext_zip_item D z1 Z.pr z2 Z.w1 Z.w2 Z.a1 Z.a2 ex ey fun h' b1 b2 b3 b4 b5 b6 k => ?_)
      exact turn h' ⟨_, false, _, b1, b5, hB⟩ b3 b4 b5 b6 fun b o n1 n2 n3 n4 e => k b o n1 n2 n3 n4 e
    · refine wpAny_bind (wpAny_pyNext_zip_item_held D z1 z2 Z.pr Z.w1 Z.w2 Z.a1 Z.a2 ex ey fun h' b1 b3 b4 b5 b6 k => ?_)
      have n1 : T ≠ z := Nat.ne_of_gt (Nat.lt_of_lt_of_le lz z3)
      have n3 : T ≠ i1 := Nat.ne_of_gt (Nat.lt_of_lt_of_le li1 z3)
      have n4 : T ≠ i2 := Nat.ne_of_gt (Nat.lt_of_lt_of_le li2 z3)
      exact turn h' ⟨T, true, oT, b1, k _ _ n1 n3 n4 z2, z3⟩ b3 b4 b5 b6 fun b o n1 _ n3 n4 e => k b o n1 n3 n4 e
theorem zip_no_len : typeLookup (.type "zip") "__len__" = pure none := am_miss_of_fast (by decide +kernel)
theorem zip_no_hint : typeLookup (.type "zip") "__length_hint__" = pure none := am_miss_of_fast (by decide +kernel)
theorem listZip {E : Value → Shared → Prop} {s : Shared} {Q : Value → Shared → Prop} (hh : A.handled = none) (D : ZipApart z TI TO i1 i2 l1 l2) (same : ys.size = xs.size) (few : xs.size ≤ sizeLine) (hz : IsZip s.heap z TI TO .none) (hTI : IsPair s.heap TI (.ref i1) (.ref i2)) (hTO : IsPair s.heap TO .none .none)
    (h1 : s.heap.IsListIter i1 l1 0) (h2 : s.heap.IsListIter i2 l2 0) (g1 : s.heap.IsList l1 xs) (g2 : s.heap.IsList l2 ys)
    (hQ : ∀ (h' : Heap) (tk : Nat) (Us : List Addr) (c' : Nat), Us.length = xs.size → Us.Nodup → (∀ (j : Nat) (T : Addr), Us[j]? = some T → s.heap.objs.size < T ∧ ∃ x y, xs[j]? = some x ∧ ys[j]? = some y ∧ IsPair h' T x y) → h'.get? s.heap.objs.size = some (seqObj "list" (Us.map Value.ref).toArray c') →
      (∀ b o, b ≠ z → b ≠ TO → b ≠ i1 → b ≠ i2 → s.heap.get? b = some o → h'.get? b = some o) → Q (.ref s.heap.objs.size) { s with heap := h', toks := tk }) :
    wpAny (model P w) A (call (.type "list") [.ref z]) Q E s := by
  have none1 : A.in1.in1.handled = none := by simp [hh]
  obtain ⟨oh1, e1, _⟩ := id h1
  obtain ⟨oh2, e2, _⟩ := id h2
  obtain ⟨og1, f1, _⟩ := id g1
  obtain ⟨og2, f2, _⟩ := id g2
  refine callType_codes (Q₁ := fun obj s1 => obj = .ref s.heap.objs.size ∧ s1 = { s with heap := s.heap.push { cls := .type "list", data := .seq #[] } }) PySem.F.called_list (PySem.F.typeCall_list_1 _) PySem.F.entry_list_init (code_list_new _ ⟨rfl, rfl⟩) fun obj s1 hs1 => ?_
  obtain ⟨rfl, rfl⟩ := hs1
  have at0 : (s.heap.push { cls := .type "list", data := .seq #[] }).get? s.heap.objs.size = some { cls := .type "list", data := .seq #[] } := Heap.get?_push_size _ rfl
  have old : ∀ b o, s.heap.get? b = some o → (s.heap.push { cls := .type "list", data := .seq #[] }).get? b = some o := fun b o e => Heap.get?_push_of_some _ e
  refine ⟨⟨_, at0, rfl⟩, PySem.F.args_list_init_2 _ _, ?_⟩
  show wpAny _ _ (do let old ← Builtin.List.listItems (.ref s.heap.objs.size); Builtin.List.listUpdate (.ref s.heap.objs.size) (fun _ => #[]); letGo old.toList.reverse; Builtin.List.listExtendWith (.ref s.heap.objs.size) (.ref z) .none) _ _ _
  refine wpAny_bind ?_
  unfold Builtin.List.listItems
  refine wpAny_bind (wpAny_seqItems at0 rfl (wpAny_pure ?_))
  show wpAny _ _ (updateSeq s.heap.objs.size (fun _ => #[]) >>= fun _ => letGo (#[] : Array Value).toList.reverse >>= fun _ => Builtin.List.listExtendWith (.ref s.heap.objs.size) (.ref z) .none) _ _ _
  refine wpAny_bind (wpAny_updateSeq at0 rfl (wpAny_bind (wpAny_letGo ?_)))
  have at1 := Heap.get?_update_self (Obj.mapSeq (fun _ => (#[] : Array Value))) at0 rfl
  have ne : ∀ {b : Addr} {o : Obj}, s.heap.get? b = some o → s.heap.objs.size ≠ b := fun e => Nat.ne_of_gt (Heap.lt_size e)
  have old1 : ∀ b o, s.heap.get? b = some o → ((s.heap.push { cls := .type "list", data := .seq #[] }).update s.heap.objs.size (Obj.mapSeq (fun _ => (#[] : Array Value)))).get? b = some o := fun b o e => (Heap.get?_update_other _ _ (ne e)).trans (old b o e)
  generalize hh1 : ((s.heap.push { cls := .type "list", data := .seq #[] }).update s.heap.objs.size (Obj.mapSeq (fun _ => (#[] : Array Value)))) = hp1 at at1 old1
  have sz1 : hp1.objs.size = s.heap.objs.size + 1 := by rw [← hh1, Heap.size_update, Heap.size_push]
  unfold Builtin.List.listExtendWith
  have tz : Shared.TypeIs { s with heap := hp1 } (.ref z) "zip" := ⟨_, old1 _ _ hz, rfl⟩
  refine wpAny_bind (wpAny_typeOf tz ?_)
  have k1 : Builtin.List.listSameRef (.ref s.heap.objs.size) (.ref z) = false := by simp [Builtin.List.listSameRef, ne hz]
  have k2 : (Value.type "zip" == Value.type "list") = false := by decide
  have k3 : (Value.type "zip" == Value.type "tuple") = false := by decide
  simp only [k1, k2, k3, Bool.or_false, Bool.false_eq_true, if_false]
  refine wpAny_bind (wpAny_pyIter_zip (old1 _ _ hz) (wpAny_bind (wpAny_holding ?_)))
  unfold Builtin.List.listLengthHint
  refine wpAny_bind (wpAny_specialOf tz zip_no_len ?_)
  show wpAny _ _ (specialOf (Value.ref z) (Str.ofString "__length_hint__") >>= _) _ _ _
  refine wpAny_bind (wpAny_specialOf tz zip_no_hint (wpAny_pure ?_))
  show wpAny _ _ (rule "list.extend.makes-room" >>= fun _ => Builtin.List.listTouch (.ref s.heap.objs.size) >>= fun _ => again (.builtin "list.extend.loop" ⟨[.ref s.heap.objs.size, .ref z, .none], []⟩)) _ _ _
  refine wpAny_bind (wpAny_rule (wpAny_bind ?_))
  show wpAny _ _ (updateSeq s.heap.objs.size (·.push .none) >>= fun _ => updateSeq s.heap.objs.size (·.pop)) _ _ _
  refine wpAny_bind (wpAny_updateSeq at1 rfl ?_)
  have at2 := Heap.get?_update_self (Obj.mapSeq (·.push Value.none)) at1 rfl
  refine wpAny_updateSeq (hz := by seq_fits) at2 rfl ?_
  have at3 := Heap.get?_update_self (Obj.mapSeq (·.pop)) at2 rfl
  have old3 : ∀ b o, s.heap.get? b = some o → ((hp1.update s.heap.objs.size (Obj.mapSeq (·.push Value.none))).update s.heap.objs.size (Obj.mapSeq (·.pop))).get? b = some o := fun b o e => (Heap.get?_update_other _ _ (ne e)).trans ((Heap.get?_update_other _ _ (ne e)).trans (old1 b o e))
  have sz3 : ((hp1.update s.heap.objs.size (Obj.mapSeq (·.push Value.none))).update s.heap.objs.size (Obj.mapSeq (·.pop))).objs.size = s.heap.objs.size + 1 := by rw [Heap.size_update, Heap.size_update, sz1]
  generalize (hp1.update s.heap.objs.size (Obj.mapSeq (·.push Value.none))).update s.heap.objs.size (Obj.mapSeq (·.pop)) = hp3 at at3 old3 sz3
  refine wpAny_pure ⟨plainId_quiet PySem.F.plain_extend_loop _, ?_⟩
  refine zipLoop none1 D same few (B := s.heap.objs.size + 1) (fun b hb => ?_) (Nat.lt_succ_self _) ⟨ne hz, ne hTI, ne hTO, ne e1, ne e2, ne f1, ne f2⟩ xs.size 0 _ [] (Nat.zero_add _) (Nat.le_of_eq sz3.symm) ?_ ⟨_, at3⟩ fun h' tk Us c' u1 u0 u2 u3 u4 => ?_
  · have up : ∀ {b : Addr} {o : Obj}, s.heap.get? b = some o → b < s.heap.objs.size + 1 := fun e => Nat.lt_succ_of_lt (Heap.lt_size e)
    rcases hb with rfl | rfl | rfl | rfl | rfl | rfl | rfl
    · exact up hz
    · exact up hTI
    · exact up hTO
    · exact up e1
    · exact up e2
    · exact up f1
    · exact up f2
  · exact { pr := old3 _ _ hTI, w1 := h1.at fun o e => old3 _ o e, w2 := h2.at fun o e => old3 _ o e, a1 := g1.at fun o e => old3 _ o e, a2 := g2.at fun o e => old3 _ o e, zp := Or.inl ⟨old3 _ _ hz, _, _, old3 _ _ hTO⟩, len := rfl, nd := List.nodup_nil, out := fun j T hj => by simp at hj }
  · exact ⟨rfl, hQ h' tk Us c' u1 u0 u2 u3 fun b o b1 b2 b3 b4 e => u4 b o (Ne.symm (ne e)) b1 b2 b3 b4 (old3 b o e)⟩
end
section
variable {X : Cx} {K : PySem.W.Frag}
def tListZip (K : PySem.W.Frag) (ta : TA) : TE := fun σ H Q => ta σ H fun vs H1 => ∃ (a b : Addr) (xs ys : List V), vs = [.ref a, .ref b] ∧ SqL K H1 a xs ∧ SqL K H1 b ys ∧ ys.length = xs.length ∧
  ∀ (L : Addr) (H2 : Hp) (Ts : List Addr), H1 L = none → Same H1 H2 → H2 L = some (.lst (Ts.map V.ref)) → Ts.length = xs.length → (∀ (j : Nat) (x y : V), xs[j]? = some x → ys[j]? = some y → ∃ T, Ts[j]? = some T ∧ H2 T = some (.tup [x, y])) → Q (.ref L) H2
theorem rd_lz {ta : TA} {σ : L2.St} {H : Hp} {Q : VK} (q : ta σ H fun vs H1 => ∃ (a b : Addr) (xs ys : List V), vs = [.ref a, .ref b] ∧ SqL K H1 a xs ∧ SqL K H1 b ys ∧ ys.length = xs.length ∧
  ∀ (L : Addr) (H2 : Hp) (Ts : List Addr), H1 L = none → Same H1 H2 → H2 L = some (.lst (Ts.map V.ref)) → Ts.length = xs.length → (∀ (j : Nat) (x y : V), xs[j]? = some x → ys[j]? = some y → ∃ T, Ts[j]? = some T ∧ H2 T = some (.tup [x, y])) → Q (.ref L) H2) : tListZip K ta σ H Q := q
theorem vals_get {xs : List V} {us : List Value} (h : Vals xs us) : ∀ {j : Nat} {u : Value}, us[j]? = some u → ∃ x, xs[j]? = some x ∧ RelV x u := by
  induction h with
  | nil => intro j u e; simp at e
  | cons r _ ih =>
    intro j u e
    cases j with
    | zero => simp at e; subst e; exact ⟨_, rfl, r⟩
    | succ j => simpa using ih (by simpa using e)
def pick2 : List Addr → List V → List V → Addr → List V
  | T :: Ts, x :: xs, y :: ys, c => if c = T then [x, y] else pick2 Ts xs ys c
  | _, _, _, _ => []
theorem pick2_at : ∀ {Ts : List Addr} {xs ys : List V} {j : Nat} {T : Addr} {x y : V}, Ts.Nodup → Ts[j]? = some T → xs[j]? = some x → ys[j]? = some y → pick2 Ts xs ys T = [x, y]
  | [], _, _, j, T, x, y, _, h, _, _ => by simp at h
  | _ :: _, [], _, j, T, x, y, _, _, h, _ => by simp at h
  | _ :: _, _ :: _, [], j, T, x, y, _, _, _, h => by simp at h
  | T0 :: Ts, x0 :: xs, y0 :: ys, 0, T, x, y, _, h1, h2, h3 => by
    simp at h1 h2 h3
    rw [h1, h2, h3]
    exact if_pos rfl
  | T0 :: Ts, x0 :: xs, y0 :: ys, j + 1, T, x, y, nd, h1, h2, h3 => by
    simp at h1 h2 h3
    obtain ⟨n1, n2⟩ := List.nodup_cons.mp nd
    have ne : T ≠ T0 := fun z => n1 (by rw [← z]; exact List.mem_of_getElem? h1)
    exact (if_neg ne).trans (pick2_at n2 h1 h2 h3)
theorem vals_refs : ∀ Us : List Addr, Vals (Us.map V.ref) (Us.map Value.ref)
  | [] => .nil
  | _ :: Us => .cons rfl (vals_refs Us)
theorem pe_listZip {e e2 : Expr} {ta : TA} {p p2 pos q : Pos} (hc : X.calm = true) (hg : Gl X "list") (hm : X.mg "list" = none) (hg2 : Gl X "zip") (hm2 : X.mg "zip" = none) (ha : PA X [e, e2] ta)
    (hs : starEach [e, e2] X.env = (false, eval e X.env) :: starEach [e2] X.env := by rfl) (hpl : (backTo q (starEach [e2] X.env)).any (·.1) = false := by rfl) (h : X.K = K := by rfl) :
    PE X (.Call (.Name "list" p) [.Call (.Name "zip" p2) [e, e2] [] q] [] pos) (tListZip K ta) := by
  subst h
  refine ⟨fun pins s σ H Q I want => ?_⟩
  refine Call_ (ld_blt (u := .type "list") I hg hm (by decide +kernel) (PyProof.Rows.callWith_type1 (PyProof.Rows.args_cons ?_ rfl) rfl rfl))
  refine Call_ (ld_blt I hg2 hm2 PyProof.Rows.boot_zip (PyProof.Rows.callWith_type1 (thn (ha.run q pins s σ H _ I want) fun us s1 ⟨vs, H1, I1, r1, q1⟩ => ?_) hs hpl))
  obtain ⟨a, b, xs, ys, ex, hx, hy, len, qq⟩ := q1
  subst ex
  obtain ⟨u1, u2, rfl, ra, rb⟩ : ∃ u1 u2, us = [u1, u2] ∧ RelV (.ref a) u1 ∧ RelV (.ref b) u2 := by
    cases r1 with
    | cons r rr =>
      cases rr with
      | cons r' rr =>
        cases rr
        exact ⟨_, _, rfl, r, r'⟩
  cases ra
  cases rb
  obtain ⟨its, rv, p1, z1⟩ := I1.list hx
  obtain ⟨its2, rv2, p2', z2⟩ := I1.list hy
  have l1 := rv.length
  have l2 := rv2.length
  have la : a < s1.heap.objs.size := p1.lt
  have lb : b < s1.heap.objs.size := p2'.lt
  refine call_zip_2 p1.isList p2'.isList fun h' hz hTI hTO w1 w2 hsz hk => ?_
  refine PyProof.Rows.args_nil ?_
  have D : ZipApart (s1.heap.objs.size + 4) (s1.heap.objs.size + 2) (s1.heap.objs.size + 3) s1.heap.objs.size (s1.heap.objs.size + 1) a b := PySem.W.ktu_apart s1.heap.objs.size a b la lb
  have keepL : ∀ {l : Addr} {items : Array Value}, s1.heap.IsList l items → h'.IsList l items := fun g => g.at fun o e => hk _ o e
  refine listZip (s := { s1 with heap := h' }) (I1.ok.hd hc) D (xs := its.toArray) (ys := its2.toArray) (by rw [List.size_toArray, List.size_toArray]; omega) (by rw [List.size_toArray]; omega) hz hTI hTO w1 w2 (keepL p1.isList) (keepL p2'.isList) fun h2 tk Us c' n1 n0 n2 n3 n4 => ?_
  rw [List.size_toArray] at n1
  have above : ∀ {c : Addr} {o : Obj}, s1.heap.get? c = some o → h2.get? c = some o := fun {c o} e => by
    have lt := Heap.lt_size e
    exact n4 c o (Nat.ne_of_lt (Nat.lt_add_right 4 lt)) (Nat.ne_of_lt (Nat.lt_add_right 3 lt)) (Nat.ne_of_lt lt) (Nat.ne_of_lt (Nat.lt_add_right 1 lt)) (hk c o e)
  have hsz' : h'.objs.size = s1.heap.objs.size + 5 := hsz
  -- what is tracked from here on
  have bigT : ∀ (j : Nat) (T : Addr), Us[j]? = some T → h'.objs.size < T := fun j T hj => (n2 j T hj).1
  have newT : ∀ T ∈ Us, H1 T = none ∧ T ≠ h'.objs.size := fun T hT => by
    obtain ⟨j, hj⟩ := List.mem_iff_getElem?.mp hT
    have := bigT j T hj
    exact ⟨I1.hok.fresh (Nat.le_of_lt (Nat.lt_of_le_of_lt (by rw [hsz']; exact Nat.le_add_right _ _) this)), Nat.ne_of_gt this⟩
  have newL : H1 h'.objs.size = none := I1.hok.fresh (by rw [hsz']; exact Nat.le_add_right _ _)
  have at_ : ∀ (j : Nat) (T : Addr), Us[j]? = some T → ∃ x y u v, xs[j]? = some x ∧ ys[j]? = some y ∧ RelV x u ∧ RelV y v ∧ IsPair h2 T u v := fun j T hj => by
    obtain ⟨_, u, v, e1, e2, pr⟩ := n2 j T hj
    obtain ⟨x, ex, rx⟩ := vals_get rv (j := j) (u := u) (by simpa using e1)
    obtain ⟨y, ey, ry⟩ := vals_get rv2 (j := j) (u := v) (by simpa using e2)
    exact ⟨x, y, u, v, ex, ey, rx, ry, pr⟩
  let H2 : Hp := fun c => if c = h'.objs.size then some (.lst (Us.map V.ref)) else if c ∈ Us then some (.tup (pick2 Us xs ys c)) else H1 c
  have gL : H2 h'.objs.size = some (.lst (Us.map V.ref)) := if_pos rfl
  have gT : ∀ (j : Nat) (T : Addr) (x y : V), Us[j]? = some T → xs[j]? = some x → ys[j]? = some y → H2 T = some (.tup [x, y]) := fun j T x y hj hx hy => by
    have hT := List.mem_of_getElem? hj
    show (if T = h'.objs.size then _ else if T ∈ Us then _ else _) = _
    rw [if_neg (newT T hT).2, if_pos hT, pick2_at n0 hj hx hy]
  have same2 : Same H1 H2 := fun c o e => by
    have m1 : c ≠ h'.objs.size := fun z => by
      rw [z, newL] at e
      cases e
    have m2 : c ∉ Us := fun z => by
      rw [(newT c z).1] at e
      cases e
    show (if c = h'.objs.size then _ else if c ∈ Us then _ else _) = _
    rw [if_neg m1, if_neg m2]
    exact e
  have szU : (Us.map V.ref).length ≤ sizeLine := by rw [List.length_map, n1]; omega
  have un : Un (frs X.stack) [] H1 H2 s1.heap h2 := Un.more (fun c o e => above e) same2 fun c e lt => by
    show (if c = h'.objs.size then _ else if c ∈ Us then _ else _) = _
    rw [if_neg fun z => by rw [z, hsz'] at lt; exact Nat.not_lt_of_le (Nat.le_add_right _ 5) lt, if_neg fun z => ?_]
    · exact e
    · obtain ⟨j, hj⟩ := List.mem_iff_getElem?.mp z
      have q := bigT j c hj
      rw [hsz'] at q
      exact Nat.lt_irrefl _ (Nat.lt_of_lt_of_le (Nat.lt_of_lt_of_le lt (Nat.le_add_right _ 5)) (Nat.le_of_lt q))
  have hok : HOk X.prog X.w H2 h2 := HOk.more I1.hok (fun c o e => above e) same2 fun c o e0 e => by
    have e' : (if c = h'.objs.size then some (.lst (Us.map V.ref)) else if c ∈ Us then some (.tup (pick2 Us xs ys c)) else H1 c) = some o := e
    by_cases c1 : c = h'.objs.size
    · rw [if_pos c1] at e'
      cases e'
      subst c1
      exact ⟨szU, Us.map Value.ref, c', vals_refs Us, n3⟩
    · rw [if_neg c1] at e'
      by_cases c2 : c ∈ Us
      · obtain ⟨j, hj⟩ := List.mem_iff_getElem?.mp c2
        obtain ⟨x, y, u, v, ex, ey, rx, ry, pr⟩ := at_ j c hj
        have g := gT j c x y hj ex ey
        rw [e] at g
        cases g
        refine ⟨by show 2 ≤ sizeLine; decide, [u, v], .cons rx (.cons ry .nil), _, pr, rfl, 0, rfl⟩
      · rw [if_neg c2, e0] at e'
        cases e'
  exact ⟨.ref h'.objs.size, H2, I1.call' (ch := []) rfl un hok I1.bare (fun _ z => nomatch z), rfl, qq h'.objs.size H2 Us newL same2 gL (by rw [n1, l1]) fun j x y hx hy => by
    have lt : j < Us.length := by
      have := (List.getElem?_eq_some_iff.mp hx).1
      omega
    exact ⟨Us[j], List.getElem?_eq_getElem lt, gT j _ x y (List.getElem?_eq_getElem lt) hx hy⟩⟩
end
/-! ### list(s), list(x) and len(x) of a text or a list -/
section
variable {X : Cx} {K : PySem.W.Frag}
theorem vals_strs_of : ∀ (cs : List Nat) (us : List Value), us.length = cs.length → (∀ (j : Nat) (u : Value), us[j]? = some u → ∃ c t, cs[j]? = some c ∧ u = Value.str ⟨#[c]⟩ t) → Vals (cs.map fun c => V.str ⟨#[c]⟩) us
  | [], [], _, _ => .nil
  | [], _ :: _, h, _ => by simp at h
  | _ :: _, [], h, _ => by simp at h
  | c :: cs, u :: us, h, k => by
    obtain ⟨d, t, h1, h2⟩ := k 0 u rfl
    simp at h1
    subst h1
    exact .cons ⟨t, h2⟩ (vals_strs_of cs us (by simpa using h) fun j v hv => by
      obtain ⟨d, t, q1, q2⟩ := k (j + 1) v (by simpa using hv)
      exact ⟨d, t, by simpa using q1, q2⟩)
def rListS : List V → Hp → VK → Prop := fun xs H Q => ∃ z : Str, xs = [.str z] ∧ z.cps.size ≤ 4000 ∧ ∀ l, H l = none → Q (.ref l) (upd H l (.lst (z.cps.toList.map fun c => V.str ⟨#[c]⟩)))
theorem klistS (hc : X.calm = true) : CallR X (.type "list") rListS := by
  intro pins s σ H xs us Q I r h
  obtain ⟨z, rfl, few, q⟩ := h
  obtain ⟨u, rfl, t, rfl⟩ := vals1 r
  have lim : z.cps.size ≤ sizeLine := by rw [sizeLine_eq]; omega
  refine PySem.call_list_str (hn := lim) (I.ok.hd hc) z t fun h' tk acc c' keep at_ it => ?_
  have sz : (z.cps.toList.map fun c => V.str ⟨#[c]⟩).length ≤ sizeLine := by rw [List.length_map, Array.length_toList]; exact lim
  refine ⟨.ref s.heap.objs.size, _, I.laid (o := .lst (z.cps.toList.map fun c => V.str ⟨#[c]⟩)) keep (Nat.le_refl _) ⟨sz, acc.toList, c', ?_, at_⟩, rfl, q _ (I.hok.fresh (Nat.le_refl _))⟩
  refine vals_strs_of _ _ (by rw [Array.length_toList, Array.length_toList]; exact it.1) fun j u hu => ?_
  obtain ⟨c, t', e1, e2⟩ := it.2 j u (by simpa using hu)
  exact ⟨c, t', by simpa using e1, e2⟩
def qListA (K : PySem.W.Frag) : List V → Hp → VK → Prop := fun xs H Q => qList K xs H Q ∨ rListS xs H Q
theorem klistA (hc : X.calm = true) (h : X.K = K := by rfl) : CallR X (.type "list") (qListA K) := CallR.or (klist h) (klistS hc)
def qLenA (K : PySem.W.Frag) : List V → Hp → VK → Prop := fun xs H Q => qLen K xs H Q ∨ ∃ z, xs = [.str z] ∧ z.length ≤ sizeLine ∧ Q (.int z.length) H
theorem klenA (h : X.K = K := by rfl) : CallR X (.builtin "len") (qLenA K) := CallR.or (klen h) call_len_str
end
/-! ### s * n -/
def repS (z : Str) (n : Nat) : Str := ⟨(List.replicate n z.cps).foldl (· ++ ·) #[]⟩
theorem fold_size (z : Array Nat) : ∀ (n : Nat) (acc : Array Nat), ((List.replicate n z).foldl (· ++ ·) acc).size = acc.size + n * z.size
  | 0, acc => by simp
  | n + 1, acc => by
    rw [List.replicate_succ, List.foldl_cons, fold_size z n, Array.size_append, Nat.succ_mul]
    omega
theorem repS_len (z : Str) (n : Nat) : (repS z n).length = n * z.length := by
  have := fold_size z.cps n #[]
  simpa [repS, Str.length] using this
theorem repS_one (z : Str) : repS z 1 = z := by
  cases z with
  | mk c =>
    show (⟨#[] ++ c⟩ : Str) = ⟨c⟩
    rw [Array.empty_append]
theorem repS_nil (z : Str) (n : Nat) (h : z.length = 0) : repS z n = z := by
  have e := repS_len z n
  rw [h, Nat.mul_zero] at e
  cases z with
  | mk c =>
    have h1 : c = #[] := Array.eq_empty_of_size_eq_zero h
    have h2 : (repS ⟨c⟩ n).cps = #[] := Array.eq_empty_of_size_eq_zero e
    subst h1
    cases q : repS ⟨#[]⟩ n with
    | mk d =>
      rw [q] at h2
      rw [show d = #[] from h2]
def rRepS : R2 := fun x y H Q => ∃ (z : Str) (n : Nat), x = .str z ∧ y = .int (n : Int) ∧ n ≤ 1000 ∧ z.length ≤ 1000 ∧ Q (.str (repS z n)) H
theorem op_repS {X : Cx} : OpR X (binaryOp .Mult) rRepS := by
  intro pins s σ H x y v u Q I rx ry h
  obtain ⟨z, n, rfl, rfl, hn, hz, q⟩ := h
  obtain ⟨t, rfl⟩ := rx
  obtain ⟨t', rfl⟩ := ry
  have prod : z.length * n ≤ 1000 * 1000 := Nat.mul_le_mul hz hn
  have fits : Builtin.Str.tooLong (z.length * ((n : Nat) : Int).toNat) = false := by
    rw [Int.toNat_natCast]
    refine decide_eq_false ?_
    rw [sizeLine_eq]
    omega
  refine PySem.P.mul_str (by rw [decide_eq_false (by omega), decide_eq_false (by omega)]; rfl) (fun h1 _ => ?_) (fun _ _ => fits) ?_
  · have b : (1 : Int) ≤ n := by omega
    have d := Int.ediv_le_ediv (a := (2 ^ 63 - 1) / 1000 * n) (b := 2 ^ 63 - 1) (c := n) (by omega) (by omega)
    rw [Int.mul_ediv_cancel _ (by omega)] at d
    omega
  by_cases h0 : (n : Int) < 1
  · have e : n = 0 := by omega
    subst e
    rw [if_pos h0]
    exact ⟨by decide, ⟨.str (repS z 0), H, I.tok _, ⟨_, rfl⟩, q⟩⟩
  · rw [if_neg h0]
    by_cases h1 : ((n : Int) == 1 || z.length == 0) = true
    · rw [if_pos h1]
      have e : repS z n = z := by
        rcases Bool.or_eq_true_iff.mp h1 with k | k
        · have : n = 1 := by
            have := eq_of_beq k
            omega
          rw [this, repS_one]
        · exact repS_nil z n (eq_of_beq k)
      rw [e] at q
      exact ⟨.str z, H, I, ⟨_, rfl⟩, q⟩
    · rw [if_neg h1, Int.toNat_natCast]
      refine ⟨?_, ⟨.str (repS z n), H, I.tok _, ⟨_, rfl⟩, q⟩⟩
      have e := repS_len z n
      rw [Nat.mul_comm] at e
      show (repS z n).length ≤ sizeLine
      rw [sizeLine_eq]
      omega
/-! ### xs + ys of any two lists that are read -/
theorem meets_cat (l b : Addr) (xs ys : Array Value) (n m : Nat) (d1 d2 : Option Addr) (s1 s2 : Array (Option Value)) (few : xs.size + ys.size ≤ sizeLine) :
    Meets (Builtin.«list.__add__» ⟨[.ref l, .ref b], []⟩) (fun _ R s => s.heap.get? l = some { cls := .type "list", dict := d1, data := .seq xs n, slots := s1 } ∧ s.heap.get? b = some { cls := .type "list", dict := d2, data := .seq ys m, slots := s2 } ∧
      R (.ok (.ret (Value.ref s.heap.objs.size))) { s with heap := s.heap.push { cls := Value.type "list", data := Data.seq (xs ++ ys) }, toks := s.toks }) :=
  .of_wp fun prog w A R s h => by
    obtain ⟨hp, gs, dr, tk, os⟩ := s
    obtain ⟨h1, h2, fin⟩ := h
    have j1 := PySem.AutoSeq1.idx_int
    have j2 := PySem.AutoSeq1.sub_tuple_tuple
    have j3 := PySem.AutoSeq1.sub_list_list
    have j4 := PySem.AutoSeq1.sub_tuple_list
    have j5 := PySem.AutoSeq1.sub_list_tuple
    wp_walk using PySem.AutoSeq1.wpAny_loadPart' h1, PySem.AutoSeq1.wpAny_loadPart' h2
    exact ⟨_, rfl, fin⟩
section
variable {X : Cx} {K : PySem.W.Frag}
def rCatL (K : PySem.W.Frag) : R2 := fun x y H Q => ∃ a b xs ys, x = .ref a ∧ y = .ref b ∧ SqL K H a xs ∧ SqL K H b ys ∧ xs.length + ys.length ≤ sizeLine ∧ ∀ p, H p = none → Q (.ref p) (upd H p (.lst (xs ++ ys)))
theorem op_catL (h : X.K = K := by rfl) : OpR X (binaryOp .Add) (rCatL K) := by
  subst h
  intro pins s σ H x y v u Q I rx ry want
  obtain ⟨a, b, xs, ys, rfl, rfl, ha, hb, few, q⟩ := want
  cases rx
  cases ry
  obtain ⟨its, r1, ⟨⟨c1, d1, e1, s1⟩, n1, g1, hc1, hd1, he1⟩, _⟩ := I.list ha
  obtain ⟨its2, r2, ⟨⟨c2, d2, e2, s2⟩, n2, g2, hc2, hd2, he2⟩, _⟩ := I.list hb
  simp only at hc1 hc2 he1 he2
  subst hc1 hc2 he1 he2
  have z1 := r1.length
  have z2 := r2.length
  refine PySem.concat_meets ⟨_, g1, rfl⟩ ⟨_, g2, rfl⟩ PySem.noFill_list_add PySem.seq_list_add PySem.F.slot_list_add PySem.F.entry_list_add (PySem.F.args_list_add_2 _ _) (meets_cat a b its.toArray its2.toArray n1 n2 d1 d2 s1 s2 (by rw [List.size_toArray, List.size_toArray]; omega)) ⟨g1, g2, ?_⟩
  have e : its.toArray ++ its2.toArray = (its ++ its2).toArray := by simp
  rw [e]
  exact ⟨.ref _, _, I.lnew (t' := s.toks) (r1.append r2) (by rw [List.length_append]; omega), rfl, q _ I.fresh⟩
end
end LX


/-! ### sets of one kind of keys: made from lists and texts, counted, sorted -/
namespace LX
open PySem PySem.Spec PyProof.Rows L2
/-- what a kind of keys must tell -/
structure KyOk {P : Program} {w : World} {κ : Type} [DecidableEq κ] (knd : PySem.KeyKind P w κ) (val : κ → Tok → Value) (key : Value → κ) : Prop where
  back : ∀ k t, key (val k t) = k
  isv : ∀ k k' t, knd.is k (val k' t) = true ↔ k' = k
  scan : ∀ k t, (val k t).scannable = true
section
variable {P : Program} {w : World} {κ : Type} [DecidableEq κ] {knd : PySem.KeyKind P w κ} {val : κ → Tok → Value} {key : Value → κ}
def entK (knd : PySem.KeyKind P w κ) (val : κ → Tok → Value) (e : Int × Value) : Prop := ∃ k t, e = (knd.hash k, val k t)
abbrev keysOf (key : Value → κ) (es : Array (Int × Value)) : List κ := es.toList.map fun e => key e.2
/-- the set at a: S its members, n of them -/
structure StK (knd : PySem.KeyKind P w κ) (val : κ → Tok → Value) (key : Value → κ) (h : Heap) (a : Addr) (S : κ → Bool) (n : Nat) (o : Obj) (es : Array (Int × Value)) (ep : Nat) (t : SetTable) : Prop where
  here : h.get? a = some o
  exact_ : o.ExactSet
  data : o.data = .set es ep t
  ent : ∀ e ∈ es.toList, entK knd val e
  nodup : (keysOf key es).Nodup
  mem : ∀ k, S k = true ↔ k ∈ keysOf key es
  room : es.size < scanBound
  fits : t.fits es.size = true
  num : es.size = n
  ris : Ris t.place.toList
  led : w.params.followText "set-order" = true ∨ t.led = true
def SetK1 (knd : PySem.KeyKind P w κ) (val : κ → Tok → Value) (key : Value → κ) (h : Heap) (a : Addr) (S : κ → Bool) (n : Nat) : Prop := ∃ o es ep t, StK knd val key h a S n o es ep t
theorem SetK1.keep {h h' : Heap} {a : Addr} {S : κ → Bool} {n : Nat} (R : SetK1 knd val key h a S n) (k : ∀ o, h.get? a = some o → h'.get? a = some o) : SetK1 knd val key h' a S n :=
  let ⟨o, es, ep, t, T⟩ := R
  ⟨o, es, ep, t, { T with here := k o T.here }⟩
theorem SetK1.congr {h : Heap} {a : Addr} {S S' : κ → Bool} {n n' : Nat} (R : SetK1 knd val key h a S n) (e : ∀ k, S' k = S k) (e2 : n' = n) : SetK1 knd val key h a S' n' := by
  rw [e2, show S' = S from funext e]
  exact R
variable (ok : KyOk knd val key)
include ok
theorem ents_elems {l : List (Int × Value)} (g : ∀ e ∈ l, entK knd val e) : ElemsOf knd l := fun e he => by
  obtain ⟨k, t, rfl⟩ := g e he
  exact ⟨⟨k, (ok.isv k k t).mpr rfl, rfl⟩, ok.scan k t⟩
theorem ents_is {e : Int × Value} (g : entK knd val e) (k : κ) : knd.is k e.2 = true ↔ key e.2 = k := by
  obtain ⟨k0, t, rfl⟩ := g
  show knd.is k (val k0 t) = true ↔ key (val k0 t) = k
  rw [ok.isv, ok.back]
theorem SetK1.setOf {h : Heap} {a : Addr} {S : κ → Bool} {n : Nat} (R : SetK1 knd val key h a S n) : h.SetOf knd a S n := by
  obtain ⟨o, es, ep, t, T⟩ := R
  refine ⟨o, es, ep, t, T.here, T.exact_, T.data, ents_elems ok T.ent, fun k => (T.mem k).trans ?_, T.room, T.fits, T.num⟩
  rw [List.mem_map]
  exact ⟨fun ⟨e, he, q⟩ => ⟨e, he, (ents_is ok (T.ent e he) k).mpr q⟩, fun ⟨e, he, q⟩ => ⟨e, he, (ents_is ok (T.ent e he) k).mp q⟩⟩
/-! ### one more member -/
omit ok in
theorem putK {A : Around} {E : Value → Shared → Prop} {s : Shared} {a : Addr} {o : Obj} {es es1 : Array (Int × Value)} {ep n' : Nat} {t t1 : SetTable} {S' : κ → Bool} {gv : Bool → Sem Unit} {old : Bool} {R : Option Bool → Shared → Prop}
    (ho : s.heap.get? a = some o) (hx : o.ExactSet) (hd : o.data = .set es ep t) (hgv : ∀ (b : Bool) (s1 : Shared) (R' : Unit → Shared → Prop), R' () s1 → wpAny (model P w) A (gv b) R' E s1)
    (c1 : ∀ e ∈ es1.toList, entK knd val e) (c2 : (keysOf key es1).Nodup) (c3 : ∀ k, S' k = true ↔ k ∈ keysOf key es1) (c4 : es1.size < scanBound) (c5 : t1.fits es1.size = true) (c6 : es1.size = n')
    (c7 : Ris t1.place.toList) (c8 : w.params.followText "set-order" = true ∨ t1.led = true)
    (hR : ∀ h', Heap.SameBut a s.heap h' → SetK1 knd val key h' a S' n' → R (some true) { s with heap := h' }) :
    wpAny (model P w) A (do
        storeSet a es1 t1
        if (!old && t1.tooFull) = true then do
            gv (relayAll t1 es1 (SetTable.grown es1.size)).2.2
            storeSet a (relayAll t1 es1 (SetTable.grown es1.size)).1 (relayAll t1 es1 (SetTable.grown es1.size)).2.1
            pure (some true)
          else pure (some true)) R E s := by
  have s1 := Heap.SameBut.update s.heap a (Obj.putSet es1 t1)
  have o1 := store_at (es' := es1) (t' := t1) ho hd
  refine wpAny_bind (wpAny_storeSet_of ho hd ?_ (fits_of_scanBound c4))
  by_cases full : (!old && t1.tooFull) = true
  · rw [if_pos full]
    have d1 := relayAll_perm t1 es1 (SetTable.grown es1.size)
    have d2 := relayAll_fits t1 es1 (SetTable.grown es1.size)
    have d3 := relayAll_ris t1 es1 (SetTable.grown es1.size)
    have d4 := relayAll_led t1 es1 (SetTable.grown es1.size)
    generalize relayAll t1 es1 (SetTable.grown es1.size) = big at d1 d2 d3 d4 ⊢
    obtain ⟨es2, t2, gave⟩ := big
    dsimp only at d1 d2 d3 d4 ⊢
    have z2 : es2.size = es1.size := by
      have q := d1.length_eq
      rwa [Array.length_toList, Array.length_toList] at q
    have o2 := store_at (es' := es2) (t' := t2) o1 rfl
    have all2 := fun e (he : e ∈ es2.toList) => c1 e (d1.mem_iff.mp he)
    have n2 : (keysOf key es2).Nodup := (d1.map _).nodup_iff.mpr c2
    have m2 : ∀ k, S' k = true ↔ k ∈ keysOf key es2 := fun k => (c3 k).trans (d1.map _).mem_iff.symm
    refine wpAny_bind (hgv _ _ _ (wpAny_bind (wpAny_storeSet_of o1 rfl ?_ (fits_of_scanBound (by rw [z2]; exact c4)))))
    exact wpAny_pure (hR _ (s1.trans (Heap.SameBut.update _ a _)) ⟨_, es2, _, t2, { here := o2, exact_ := hx, data := rfl, ent := all2, nodup := n2, mem := m2, room := by rw [z2]; exact c4, fits := d2, num := z2.trans c6, ris := d3, led := c8.imp id fun z => d4.trans z }⟩)
  · rw [if_neg full]
    exact wpAny_pure (hR _ s1 ⟨_, es1, _, t1, { here := o1, exact_ := hx, data := rfl, ent := c1, nodup := c2, mem := c3, room := c4, fits := c5, num := c6, ris := c7, led := c8 }⟩)
theorem addK {A : Around} {E : Value → Shared → Prop} {s : Shared} {a : Addr} {S : κ → Bool} {n : Nat} {k : κ} {tk : Tok} {Q : Bool → Shared → Prop} (R : SetK1 knd val key s.heap a S n) (few : n + 1 < scanBound)
    (hQ : ∀ h', Heap.SameBut a s.heap h' → SetK1 knd val key h' a (fun j => S j || decide (j = k)) (if S k = true then n else n + 1) → Q (!S k) { s with heap := h' }) :
    wpAny (model P w) A (setAddHashed a (val k tk) (knd.hash k)) Q E s := by
  obtain ⟨o, es, ep, t, T⟩ := R
  have el := ents_elems ok T.ent
  have kk : knd.is k (val k tk) = true := (ok.isv k k tk).mpr rfl
  unfold setAddHashed setAddHashedIn
  refine wpAny_holding (wpAny_bind (wpAny_setState_of T.here T.data T.fits ?_))
  dsimp only
  rw [byScan_of (ok.scan k tk) T.room el, if_pos rfl]
  unfold setAddByScan
  refine wpAny_bind (wpAny_bind (wpAny_rule (wpAny_bind (wpAny_setScan_of kk T.here T.data T.fits el ?_))))
  cases place : es.toList.findIdx? (fun e => knd.is k e.2) with
  | some j =>
    obtain ⟨lt, at_, _⟩ := List.findIdx?_eq_some_iff_getElem.mp place
    have inS : S k = true := (T.mem k).mpr (List.mem_map.mpr ⟨es.toList[j], List.getElem_mem lt, (ents_is ok (T.ent _ (List.getElem_mem lt)) k).mp at_⟩)
    have same : ∀ i, (S i || decide (i = k)) = S i := fun i => by
      by_cases c : i = k
      · rw [c, inS]
        rfl
      · rw [decide_eq_false c, Bool.or_false]
    have fin := hQ s.heap (Heap.SameBut.refl a s.heap) (SetK1.congr ⟨o, es, ep, t, T⟩ same (if_pos inS))
    rw [inS] at fin
    exact wpAny_pure (wpAny_pure fin)
  | none =>
    have notIn : k ∉ keysOf key es := fun z => by
      obtain ⟨e, he, q⟩ := List.mem_map.mp z
      have c := List.findIdx?_eq_none_iff.mp place e he
      rw [(ents_is ok (T.ent e he) k).mpr q] at c
      cases c
    have outS : S k = false := Bool.eq_false_iff.mpr fun z => notIn ((T.mem k).mp z)
    have gone : ∀ (b : Bool) {s1 : Shared} {R' : Unit → Shared → Prop}, R' () s1 → wpAny (model P w) A (match b with | true => rule "set.scan.the-table-gave-way" | false => pure ()) R' E s1 := fun b s1 R' q => by
      cases b
      · exact wpAny_pure q
      · exact wpAny_rule q
    have d1 := layNew_perm t es (knd.hash k) (val k tk)
    have d2 := layNew_fits t es (knd.hash k) (val k tk)
    have d3 := layNew_ris t es (knd.hash k) (val k tk) T.ris
    have d4 := layNew_led t es (knd.hash k) (val k tk)
    dsimp only
    generalize layNew t es (knd.hash k) (val k tk) = made at d1 d2 d3 d4 ⊢
    obtain ⟨es1, t1, old, gave⟩ := made
    dsimp only at d1 d2 d3 d4 ⊢
    rw [Array.toList_push] at d1
    have pe : es1.toList.Perm ((knd.hash k, val k tk) :: es.toList) := d1.trans (List.perm_append_singleton _ _)
    have pk : (keysOf key es1).Perm (k :: keysOf key es) := by
      have q := pe.map fun e : Int × Value => key e.2
      rw [List.map_cons] at q
      rw [show key (knd.hash k, val k tk).2 = k from ok.back k tk] at q
      exact q
    have z1 : es1.size = n + 1 := by
      have q := pe.length_eq
      rw [List.length_cons, Array.length_toList, Array.length_toList, T.num] at q
      exact q
    have e1 : ∀ e ∈ es1.toList, entK knd val e := fun e he => by
      rcases List.mem_cons.mp (pe.mem_iff.mp he) with z | z
      · exact ⟨k, tk, z⟩
      · exact T.ent e z
    have m1 : ∀ i, (S i || decide (i = k)) = true ↔ i ∈ keysOf key es1 := fun i => by
      rw [pk.mem_iff, List.mem_cons, Bool.or_eq_true, decide_eq_true_eq, T.mem i, or_comm]
    have n1 : (keysOf key es1).Nodup := pk.nodup_iff.mpr (List.nodup_cons.mpr ⟨notIn, T.nodup⟩)
    have fin : ∀ h', Heap.SameBut a s.heap h' → SetK1 knd val key h' a (fun j => S j || decide (j = k)) (n + 1) → Q true { s with heap := h' } := fun h' sb r => by
      have q := hQ h' sb
      rw [outS] at q
      exact q r
    have rm : es1.size < scanBound := by rw [z1]; exact few
    have ld : w.params.followText "set-order" = true ∨ t1.led = true := T.led.imp id fun z => d4.trans z
    refine wpAny_bind (gone _ ?_)
    split
    · refine wpAny_bind ?_
      rw [hashByValue_scannable 8 (ok.scan k tk)]
      refine wpAny_pure ?_
      refine putK (knd := knd) (val := val) (key := key) T.here T.exact_ T.data (fun b s1 R' q => ?_) e1 n1 m1 rm ?_ z1 ?_ ?_ fun h' sb r => ?_
      · cases b <;> first | exact wpAny_pure q | exact wpAny_rule q
      · first | exact d2 | (split <;> first | exact d2 | exact SetTable.fits_plain_off d2)
      · first | exact d3 | (split <;> exact d3)
      · first | exact ld | (split <;> exact ld)
      · dsimp only
        exact wpAny_pure (fin h' sb r)
    · refine wpAny_bind (wpAny_pure ?_)
      rw [if_pos rfl]
      refine putK (knd := knd) (val := val) (key := key) T.here T.exact_ T.data (fun b s1 R' q => ?_) e1 n1 m1 rm d2 z1 d3 ld fun h' sb r => ?_
      · cases b <;> first | exact wpAny_pure q | exact wpAny_rule q
      · dsimp only
        exact wpAny_pure (fin h' sb r)
/-! ### all of a walk, one after the other -/
omit ok in
/-- each once, as met first -/
def dd (xs : List κ) : List κ := xs.foldl (fun acc x => if x ∈ acc then acc else acc ++ [x]) []
omit ok in
theorem dd_snoc (xs : List κ) (x : κ) : dd (xs ++ [x]) = if x ∈ dd xs then dd xs else dd xs ++ [x] := by
  unfold dd
  rw [List.foldl_append]
  rfl
omit ok in
theorem dd_mem : ∀ (xs : List κ) (acc : List κ) (x : κ), x ∈ xs.foldl (fun acc x => if x ∈ acc then acc else acc ++ [x]) acc ↔ x ∈ acc ∨ x ∈ xs
  | [], acc, x => by simp
  | y :: ys, acc, x => by
    rw [List.foldl_cons, dd_mem ys, List.mem_cons]
    by_cases c : y ∈ acc
    · rw [if_pos c]
      constructor
      · rintro (h | h)
        · exact Or.inl h
        · exact Or.inr (Or.inr h)
      · rintro (h | rfl | h)
        · exact Or.inl h
        · exact Or.inl c
        · exact Or.inr h
    · rw [if_neg c, List.mem_append, List.mem_singleton, or_assoc]
omit ok in
theorem mem_dd {xs : List κ} {x : κ} : x ∈ dd xs ↔ x ∈ xs := by
  have := dd_mem xs [] x
  simpa [dd] using this
omit ok in
theorem dd_nodup (xs : List κ) : (dd xs).Nodup := by
  have go : ∀ (ys acc : List κ), acc.Nodup → (ys.foldl (fun acc x => if x ∈ acc then acc else acc ++ [x]) acc).Nodup := by
    intro ys
    induction ys with
    | nil => exact fun acc h => h
    | cons y ys ih =>
      intro acc h
      rw [List.foldl_cons]
      by_cases c : y ∈ acc
      · rw [if_pos c]
        exact ih acc h
      · rw [if_neg c]
        refine ih _ (List.nodup_append.mpr ⟨h, List.nodup_cons.mpr ⟨by simp, List.nodup_nil⟩, fun u hu v hv e => ?_⟩)
        rw [List.mem_singleton] at hv
        exact c (by rw [← hv, ← e]; exact hu)
  exact go xs [] List.nodup_nil
omit ok in
theorem dd_le (xs : List κ) : (dd xs).length ≤ xs.length := by
  have go : ∀ (ys acc : List κ), (ys.foldl (fun acc x => if x ∈ acc then acc else acc ++ [x]) acc).length ≤ acc.length + ys.length := by
    intro ys
    induction ys with
    | nil => exact fun acc => Nat.le_refl _
    | cons y ys ih =>
      intro acc
      rw [List.foldl_cons, List.length_cons]
      refine Nat.le_trans (ih _) ?_
      by_cases c : y ∈ acc
      · rw [if_pos c]
        omega
      · rw [if_neg c, List.length_append, List.length_singleton]
        omega
  have := go xs []
  simpa [dd] using this
theorem walkK {A : Around} {R : Result → Shared → Prop} {I D : Addr} {fp wr : List Addr} {G : Array GenState → Array GenState → Prop} {Pv : Nat → Value → Prop} {St : Nat → Shared → Prop} {xs : List κ} (W : WalksS P w A.in1 I fp wr G xs.length Pv St) (nD : D ∉ fp)
    (few : xs.length + 1 < scanBound) (hval : ∀ i v, Pv i v → ∃ k t, xs[i]? = some k ∧ v = val k t) :
    ∀ (m i : Nat) (s : Shared), i + m = xs.length → St i s → SetK1 knd val key s.heap D (fun k => decide (k ∈ xs.take i)) (dd (xs.take i)).length →
      (∀ s', Moved (D :: wr) G s s' → SetK1 knd val key s'.heap D (fun k => decide (k ∈ xs)) (dd xs).length → R (.ok (.ret .none)) s') →
      codeAny (model P w) A (.builtin "set.update.loop" ⟨[.ref D, .ref I], []⟩) R s := by
  have nDw : D ∉ wr := fun z => nD (W.sub _ z)
  have more : ∀ b ∈ wr, b ∈ D :: wr := fun b z => List.mem_cons_of_mem _ z
  intro m
  induction m with
  | zero =>
    intro i s hi st hS hR
    have e : i = xs.length := by omega
    subst e
    rw [List.take_length] at hS
    refine codeAny_builtin PyProof.Rows.F.entry_set_update_loop ?_
    rw [Around.under_plainId PyProof.Rows.F.plain_set_update_loop _]
    show wpAny _ A.in1 (pyNext (.ref I) >>= _) _ _ s
    refine wpAny_bind (W.done s _ _ st fun s1 mv => ?_)
    exact wpAny_pure (hR s1 (mv.mono more) (hS.keep fun o e => mv.heap D o nDw e))
  | succ m ih =>
    intro i s hi st hS hR
    have lt : i < xs.length := by omega
    refine codeAny_builtin PyProof.Rows.F.entry_set_update_loop ?_
    rw [Around.under_plainId PyProof.Rows.F.plain_set_update_loop _]
    show wpAny _ A.in1 (pyNext (.ref I) >>= _) _ _ s
    refine wpAny_bind (W.item i s _ _ lt st fun v s1 hP st1 mv => ?_)
    obtain ⟨k, tk, hk, rfl⟩ := hval i v hP
    have S1 := hS.keep (h' := s1.heap) fun o e => mv.heap D o nDw e
    have tk1 : xs.take (i + 1) = xs.take i ++ [k] := by rw [List.take_add_one, hk]; rfl
    have hl : (dd (xs.take i)).length ≤ i := Nat.le_trans (dd_le _) (by rw [List.length_take]; omega)
    show wpAny _ A.in1 (holding [val k tk] (setAdd D (val k tk)) >>= _) _ _ s1
    refine wpAny_bind (wpAny_holding ?_)
    unfold setAdd
    refine wpAny_holding (wpAny_bind (knd.pyHash (k := k) ((ok.isv k k tk).mpr rfl) ?_))
    refine addK ok (s := { s1 with toks := s1.toks + 1 }) S1 (by omega) fun h' sb S2 => ?_
    have S3 : SetK1 knd val key h' D (fun k => decide (k ∈ xs.take (i + 1))) (dd (xs.take (i + 1))).length := by
      refine S2.congr (fun j => ?_) ?_
      · rw [tk1]
        simp [List.mem_append]
      · rw [tk1, dd_snoc]
        by_cases c : k ∈ xs.take i
        · rw [if_pos (mem_dd.mpr c), if_pos (decide_eq_true c)]
        · rw [if_neg fun z => c (mem_dd.mp z), if_neg (by simpa using c), List.length_append]
          rfl
    refine wpAny_pure ⟨plainId_quiet PyProof.Rows.F.plain_set_update_loop _, ih (i + 1) _ (by omega) (W.frame _ s1 _ _ st1 (Nat.le_succ _) fun b hb o e => ?_) S3 fun s2 mv2 S4 => ?_⟩
    · exact (sb.2 b fun z => nD (z ▸ hb)).trans e
    · refine hR s2 (Moved.trans W.gtrans ((mv.mono more).then_heap (Nat.le_succ _) fun b o hb e => ?_) mv2) S4
      exact (sb.2 b fun z => hb (by rw [z]; exact List.mem_cons_self)).trans e
omit ok in
theorem freshK {h : Heap} : SetK1 knd val key (h.push { cls := .type "set", dict := none, data := .set #[] 0 (.fresh 0 0 (!w.params.followText "set-order")) }) h.objs.size (fun _ => false) 0 := by
  refine ⟨_, #[], 0, _, { here := Heap.get?_push_size _ rfl, exact_ := ⟨rfl, rfl, rfl⟩, data := rfl, ent := fun e he => by simp at he, nodup := List.nodup_nil, mem := fun k => ⟨fun z => Bool.noConfusion z, fun z => by simp at z⟩, room := by decide, fits := by rfl, num := rfl, ris := List.Pairwise.nil, led := ?_ }⟩
  cases w.params.followText "set-order"
  · exact Or.inr rfl
  · exact Or.inl rfl
end
section
variable {P : Program} {w : World} {A : Around} {E : Value → Shared → Prop} {s : Shared}
/-- set.__new__ of one argument: which set it is, to the letter -/
theorem new_led1 (v : Value) {Q1 : Value → Shared → Prop}
    (h : Q1 (.ref s.heap.objs.size) { s with heap := s.heap.push { cls := .type "set", dict := none, data := .set #[] 0 (.fresh 0 0 (!w.params.followText "set-order")) } }) :
    codeAny (model P w) A (.call (.builtin "set.__new__") ⟨[.type "set", v], []⟩) (wants Q1 E) s := by
  refine codeAny_of_tree (show wpAny _ A.in1 (do checkBuiltinCall "set.__new__" ⟨[.type "set", v], []⟩; again (.builtin "set.__new__" ⟨[.type "set", v], []⟩)) _ _ s from ?_)
  refine wpAny_bind (wpAny_of_eq (PySem.F.newCall_set_1 v) (wpAny_pure ⟨plainId_quiet PySem.F.plain_set_new _, codeAny_builtin PySem.F.entry_set_new ?_⟩))
  rw [Around.under_plainId PySem.F.plain_set_new _]
  have isSet := PySem.sub_set_self
  obtain ⟨hp, gs, dr, tk, os⟩ := s
  unfold Builtin.«set.__new__» Builtin.Frozenset.newClass
  dsimp only
  wp_walk
  refine wpAny_askSetting (wpAny_pure ?_)
  dsimp only [newObj]
  exact wpAny_bind (wpAny_alloc (wpAny_pure (wpAny_pure h)))
/-- what an iteration of v gives -/
def Iters (P : Program) (w : World) (s : Shared) (v : Value) (Pv : Nat → Value → Prop) (n : Nat) : Prop := ∀ (s1 : Shared) (A1 : Around) (E1 : Value → Shared → Prop) (Q1 : Value → Shared → Prop), (∀ b o, s.heap.get? b = some o → s1.heap.get? b = some o) → A1.handled = none →
  (∀ (h2 : Heap) (tk : Nat) (I : Addr) (fp : List Addr) (St : Nat → Heap → Prop), (∀ b o, s1.heap.get? b = some o → h2.get? b = some o) → s1.heap.objs.size ≤ I → (∀ b ∈ fp, b < s.heap.objs.size ∨ s1.heap.objs.size ≤ b) →
    (∀ A' : Around, A'.handled = none → Walks P w A' I fp [I] n Pv St) → St 0 h2 → Q1 (.ref I) { s1 with heap := h2, toks := tk }) → wpAny (model P w) A1 (pyIter v) Q1 E1 s1
variable {κ : Type} [DecidableEq κ] {knd : PySem.KeyKind P w κ} {val : κ → Tok → Value} {key : Value → κ}
theorem setOfK (ok : KyOk knd val key) {v : Value} {T : String} {xs : List κ} {Pv : Nat → Value → Prop} {Q : Value → Shared → Prop} (hh : A.handled = none) (hT : ∀ s1 : Shared, (∀ b o, s.heap.get? b = some o → s1.heap.get? b = some o) → s1.TypeIs v T)
    (t1 : isSubtype (.type T) (.type "set") = pure false) (t2 : isSubtype (.type T) (.type "frozenset") = pure false) (t3 : (Value.type T == Value.type "dict") = false) (few : xs.length + 1 < scanBound)
    (it : Iters P w s v Pv xs.length) (hval : ∀ i u, Pv i u → ∃ k t, xs[i]? = some k ∧ u = val k t)
    (hQ : ∀ (h' : Heap) (tk : Nat), SetK1 knd val key h' s.heap.objs.size (fun k => decide (k ∈ xs)) (dd xs).length → (∀ b o, s.heap.get? b = some o → h'.get? b = some o) → Q (.ref s.heap.objs.size) { s with heap := h', toks := tk }) :
    wpAny (model P w) A (call (.type "set") [v]) Q E s := by
  obtain ⟨c, tl, hmro⟩ := PySem.F.called_set.mro
  have hmade := PySem.F.called_set.made
  have hsub := PySem.F.called_set.sub
  have h1 := PySem.F.called_set.notType
  have h2 := PySem.F.called_set.canCreate
  have hct := PySem.F.typeCall_set_1 v
  refine wpAny_call (codeAny_of_tree (show wpAny _ _ (callAny (.type "set") _) _ _ _ from ?_))
  refine wpAny_pure ⟨Code.quiet_builtin _ (by decide +kernel), codeAny_builtin PySem.F.entry_type_call ?_⟩
  rw [Around.under_plain (weight_type_call_type "set" [v] []) rfl]
  repeat (any_goals (first | assumption | wp_step))
  generalize hB : ({ cls := .type "set", dict := none, data := .set #[] 0 (.fresh 0 0 (!w.params.followText "set-order")) } : Obj) = B
  refine codeAny_mono (new_led1 v (E := E) (Q1 := fun obj s1 => obj = .ref s.heap.objs.size ∧ s1 = { s with heap := s.heap.push B }) (by rw [← hB]; exact ⟨rfl, rfl⟩)) fun r s1 hr => ?_
  match r, hr with
  | .error e, hr => exact hr
  | .ok .next, hr => exact hr.elim
  | .ok .brk, hr => exact hr.elim
  | .ok .cont, hr => exact hr.elim
  | .ok (.ret obj), hr =>
    obtain ⟨rfl, rfl⟩ := hr
    have live : B.isFreed = false := by rw [← hB]; rfl
    have at0 : (s.heap.push B).get? s.heap.objs.size = some B := Heap.get?_push_size _ live
    have old : ∀ b o, s.heap.get? b = some o → (s.heap.push B).get? b = some o := fun b o e => Heap.get?_push_of_some _ e
    have ty : Shared.TypeIs { s with heap := s.heap.push B } (.ref s.heap.objs.size) "set" := ⟨_, at0, by rw [← hB]⟩
    have tv := hT { s with heap := s.heap.push B } old
    have hli := PySem.F.called_set.init.lookup
    have hbi := PySem.F.called_set.init.bind (.ref s.heap.objs.size)
    repeat (any_goals (first | assumption | wp_step))
    refine codeAny_mono (codeAny_call_builtin (R := wants (fun r s2 => r = .none ∧ ∃ h' tk, s2 = { s with heap := h', toks := tk } ∧ SetK1 knd val key h' s.heap.objs.size (fun k => decide (k ∈ xs)) (dd xs).length ∧ ∀ b o, s.heap.get? b = some o → h'.get? b = some o) E)
      PySem.F.called_set.init.plain PySem.F.entry_set_init (PySem.check_set_init_1 ty ?_)) fun r2 s2 hr2 => ?_
    · have at0' : (s.heap.push { cls := .type "set", dict := none, data := .set #[] 0 (.fresh 0 0 (!w.params.followText "set-order")) }).get? s.heap.objs.size = some { cls := .type "set", dict := none, data := .set #[] 0 (.fresh 0 0 (!w.params.followText "set-order")) } := by
        rw [hB]
        exact at0
      unfold Builtin.«set.__init__» noKeywords Builtin.Frozenset.updateFrom
      generalize hPI : pyIter = PI
      subst hB
      wp_walk
      subst hPI
      refine it _ _ _ _ old (by simp [hh]) fun h2 tk I fp St k2 hI hfp W st => ?_
      rw [Heap.size_push] at hI hfp
      refine wpAny_bind (wpAny_runValue ?_)
      have off : s.heap.objs.size ∉ fp := fun z => by
        rcases hfp _ z with q | q
        · exact Nat.lt_irrefl _ q
        · exact Nat.not_succ_le_self _ q
      have none_ : A.in1.in1.in1.handled = none := by simp [hh]
      refine walkK ok (Walks.toS (W _ none_)) off few hval xs.length 0 _ (Nat.zero_add _) st ?_ fun s3 mv S3 => ?_
      · refine (freshK.keep (h' := h2) fun o e => k2 _ o e).congr (fun k => ?_) rfl
        simp
      · have e3 := mv.eq_with
        refine wpAny_pure (wpAny_pure ⟨rfl, s3.heap, s3.toks, by rw [e3], S3, fun b o e => mv.heap b o (fun z => ?_) (k2 _ _ (old b o e))⟩)
        have lt := Heap.lt_size e
        rcases List.mem_cons.mp z with z | z
        · exact Nat.lt_irrefl _ (z ▸ lt)
        · rw [List.mem_singleton.mp z] at lt
          exact Nat.lt_irrefl _ (Nat.lt_trans lt hI)
    · match r2, hr2 with
      | .error e, hr2 => exact hr2
      | .ok .next, hr2 => exact hr2.elim
      | .ok .brk, hr2 => exact hr2.elim
      | .ok .cont, hr2 => exact hr2.elim
      | .ok (.ret u), hr2 =>
        obtain ⟨rfl, h', tk, rfl, S', keep⟩ := hr2
        repeat (any_goals (first | assumption | wp_step))
        exact hQ h' tk S' keep
end
end LX
/-! ### sets of texts and of ints, as tracked objects -/
namespace LX
open PySem PySem.Spec PyProof.Rows L2
theorem okS (P : Program) (w : World) : KyOk (PySem.strKind P w) (fun k t => Value.str k t) strOf where
  back := fun _ _ => rfl
  isv := fun k k' t => by
    show Value.isStrOf k (.str k' t) = true ↔ k' = k
    exact beq_iff_eq
  scan := fun _ _ => rfl
theorem okI (P : Program) (w : World) : KyOk (intKind P w) (fun k t => Value.int k t) Builtin.Re.reRawOf where
  back := fun _ _ => rfl
  isv := fun k k' t => by
    show (k' == k) = true ↔ k' = k
    exact beq_iff_eq
  scan := fun _ _ => rfl
def TxtSet (P : Program) (w : World) (a : Addr) (S : Str → Bool) (n : Nat) : HO := .ext fun h => SetK1 (PySem.strKind P w) (fun k t => Value.str k t) strOf h a S n
def IntSet (P : Program) (w : World) (a : Addr) (S : Int → Bool) (n : Nat) : HO := .ext fun h => SetK1 (intKind P w) (fun k t => Value.int k t) Builtin.Re.reRawOf h a S n
theorem SetK1.lives {P : Program} {w : World} {κ : Type} [DecidableEq κ] {knd : PySem.KeyKind P w κ} {val : κ → Tok → Value} {key : Value → κ} {h : Heap} {a : Addr} {S : κ → Bool} {n : Nat} (R : SetK1 knd val key h a S n) : ∃ o, h.get? a = some o :=
  let ⟨o, _, _, _, T⟩ := R
  ⟨o, T.here⟩
theorem txtNew {P : Program} {w : World} {H : Hp} {h : Heap} {a : Addr} {S : Str → Bool} {n : Nat} (R : SetK1 (PySem.strKind P w) (fun k t => Value.str k t) strOf h a S n) : ObjOk P w H h a (TxtSet P w a S n) :=
  ⟨R, R.lives, fun h1 h2 p k => p.keep k⟩
theorem intNew {P : Program} {w : World} {H : Hp} {h : Heap} {a : Addr} {S : Int → Bool} {n : Nat} (R : SetK1 (intKind P w) (fun k t => Value.int k t) Builtin.Re.reRawOf h a S n) : ObjOk P w H h a (IntSet P w a S n) :=
  ⟨R, R.lives, fun h1 h2 p k => p.keep k⟩
section
variable {P : Program} {w : World} {s : Shared}
theorem itersList {l : Addr} {items : Array Value} (hl : s.heap.IsList l items) : Iters P w s (.ref l) (fun i v => items[i]? = some v) items.size := by
  intro s1 A1 E1 Q1 old hA k
  obtain ⟨o, ho, hc, n, hd⟩ := hl
  have hl1 : s1.heap.IsList l items := ⟨o, old _ _ ho, hc, n, hd⟩
  have lt : l < s.heap.objs.size := Heap.lt_size ho
  have lt1 : l < s1.heap.objs.size := Heap.lt_size (old _ _ ho)
  refine wpAny_pyIter_list hl1 ?_
  exact k _ s1.toks s1.heap.objs.size [s1.heap.objs.size, l] _ (fun b o e => Heap.get?_push_of_some _ e) (Nat.le_refl _) (fun b hb => by
      rcases List.mem_cons.mp hb with z | z
      · exact Or.inr (Nat.le_of_eq z.symm)
      · exact Or.inl (by rw [List.mem_singleton.mp z]; exact lt))
    (fun A' hA' => Walks.list hA' s1.heap.objs.size l (Nat.ne_of_lt lt1) items) ⟨⟨_, Heap.get?_push_size _ rfl, rfl, rfl⟩, hl1.push _⟩
theorem itersStr {z : Str} {t : Tok} : Iters P w s (.str z t) (SignAt z) z.cps.size := by
  intro s1 A1 E1 Q1 old hA k
  refine wpAny_pyIter_str fun o St W st => ?_
  exact k _ s1.toks s1.heap.objs.size [s1.heap.objs.size] St (fun b o e => Heap.get?_push_of_some _ e) (Nat.le_refl _) (fun b hb => Or.inr (Nat.le_of_eq (List.mem_singleton.mp hb).symm)) W st
end
abbrev one1 (c : Nat) : Str := ⟨#[c]⟩
def signs (z : Str) : List Str := z.cps.toList.map one1
theorem valsI_at : ∀ {ns : List Int} {us : List Value}, Vals (ns.map V.int) us → ∀ (i : Nat) (u : Value), us[i]? = some u → ∃ k t, ns[i]? = some k ∧ u = Value.int k t
  | [], _, .nil, i, u, h => by simp at h
  | n :: ns, _, .cons r rs, 0, u, h => by
    obtain ⟨t, rfl⟩ := r
    simp at h
    exact ⟨n, t, rfl, h.symm⟩
  | n :: ns, _, .cons r rs, i + 1, u, h => by
    obtain ⟨k, t, h1, h2⟩ := valsI_at rs i u (by simpa using h)
    exact ⟨k, t, by simpa using h1, h2⟩
theorem valsS_at : ∀ {ns : List Str} {us : List Value}, Vals (ns.map V.str) us → ∀ (i : Nat) (u : Value), us[i]? = some u → ∃ k t, ns[i]? = some k ∧ u = Value.str k t
  | [], _, .nil, i, u, h => by simp at h
  | n :: ns, _, .cons r rs, 0, u, h => by
    obtain ⟨t, rfl⟩ := r
    simp at h
    exact ⟨n, t, rfl, h.symm⟩
  | n :: ns, _, .cons r rs, i + 1, u, h => by
    obtain ⟨k, t, h1, h2⟩ := valsS_at rs i u (by simpa using h)
    exact ⟨k, t, by simpa using h1, h2⟩
section
variable {X : Cx}
/-- set(xs): a list of texts, or the signs of a text -/
def rSetS (K : PySem.W.Frag) (P : Program) (w : World) : List V → Hp → VK → Prop := fun xs H Q => ∃ ks : List Str, ((∃ l, xs = [.ref l] ∧ SqL K H l (ks.map V.str)) ∨ ∃ z, xs = [.str z] ∧ ks = signs z) ∧ ks.length + 1 < 4096 ∧
  ∀ p, H p = none → Q (.ref p) (upd H p (TxtSet P w p (fun k => decide (k ∈ ks)) (dd ks).length))
theorem cr_setS (hc : X.calm = true) : CallR X (.type "set") (rSetS X.K X.prog X.w) := by
  intro pins s σ H xs us Q I r h
  obtain ⟨ks, how, few, q⟩ := h
  have done_ : ∀ (h' : Heap) (tk : Nat), SetK1 (PySem.strKind X.prog X.w) (fun k t => Value.str k t) strOf h' s.heap.objs.size (fun k => decide (k ∈ ks)) (dd ks).length → (∀ b o, s.heap.get? b = some o → h'.get? b = some o) →
      EP X pins σ Q (.ref s.heap.objs.size) { s with heap := h', toks := tk } := fun h' tk S' keep =>
    ⟨.ref s.heap.objs.size, _, I.laid keep (Nat.le_refl _) (txtNew S'), rfl, q _ (I.hok.fresh (Nat.le_refl _))⟩
  rcases how with ⟨l, rfl, hs⟩ | ⟨z, rfl, rfl⟩
  · obtain ⟨its, rv, pl, _⟩ := I.list hs
    rw [Vals.ref1 r]
    have len : its.toArray.size = ks.length := by
      rw [List.size_toArray, ← rv.length, List.length_map]
    have il := pl.isList
    obtain ⟨o, ho, hcl, n, hd⟩ := id il
    refine setOfK (okS X.prog X.w) (T := "list") (Pv := fun i u => its.toArray[i]? = some u) (xs := ks) (I.ok.hd hc) (fun s1 old => ⟨o, old _ _ ho, hcl⟩) PySem.F.sub_list_set PySem.F.sub_list_frozenset (by decide) few ?_ (fun i u hu => valsS_at rv i u (by simpa using hu)) done_
    rw [← len]
    exact itersList il
  · obtain ⟨u, rfl, t, rfl⟩ := vals1 r
    have len : z.cps.size = (signs z).length := by unfold signs; rw [List.length_map, Array.length_toList]
    refine setOfK (okS X.prog X.w) (T := "str") (Pv := SignAt z) (xs := signs z) (I.ok.hd hc) (fun s1 old => rfl) PySem.F.sub_str_set PySem.F.sub_str_frozenset (by decide) few ?_ (fun i u hu => ?_) done_
    · rw [← len]
      exact itersStr
    · obtain ⟨c, t', hc', rfl⟩ := hu
      refine ⟨⟨#[c]⟩, t', ?_, rfl⟩
      unfold signs
      rw [List.getElem?_map, Array.getElem?_toList, hc']
      rfl
/-- set(xs), a list of ints -/
def rSetI (K : PySem.W.Frag) (P : Program) (w : World) : List V → Hp → VK → Prop := fun xs H Q => ∃ (ks : List Int) (l : Addr), xs = [.ref l] ∧ SqL K H l (ks.map V.int) ∧ ks.length + 1 < 4096 ∧
  ∀ p, H p = none → Q (.ref p) (upd H p (IntSet P w p (fun k => decide (k ∈ ks)) (dd ks).length))
theorem cr_setI (hc : X.calm = true) : CallR X (.type "set") (rSetI X.K X.prog X.w) := by
  intro pins s σ H xs us Q I r h
  obtain ⟨ks, l, rfl, hs, few, q⟩ := h
  obtain ⟨its, rv, pl, _⟩ := I.list hs
  rw [Vals.ref1 r]
  have len : its.toArray.size = ks.length := by
    rw [List.size_toArray, ← rv.length, List.length_map]
  have il := pl.isList
  obtain ⟨o, ho, hcl, n, hd⟩ := id il
  refine setOfK (okI X.prog X.w) (T := "list") (Pv := fun i u => its.toArray[i]? = some u) (xs := ks) (I.ok.hd hc) (fun s1 old => ⟨o, old _ _ ho, hcl⟩) PySem.F.sub_list_set PySem.F.sub_list_frozenset (by decide) few ?_ (fun i u hu => valsI_at rv i u (by simpa using hu)) fun h' tk S' keep => ?_
  · rw [← len]
    exact itersList il
  · exact ⟨.ref s.heap.objs.size, _, I.laid keep (Nat.le_refl _) (intNew S'), rfl, q _ (I.hok.fresh (Nat.le_refl _))⟩
/-- len of such a set -/
def rLenSet (P : Program) (w : World) : List V → Hp → VK → Prop := fun xs H Q => ∃ (a : Addr) (n : Nat), xs = [.ref a] ∧ ((∃ S, H a = some (TxtSet P w a S n)) ∨ ∃ S, H a = some (IntSet P w a S n)) ∧ Q (.int n) H
theorem cr_lenSet : CallR X (.builtin "len") (rLenSet X.prog X.w) := by
  intro pins s σ H xs us Q I r h
  obtain ⟨a, n, rfl, how, q⟩ := h
  rw [Vals.ref1 r]
  have fin : ∀ {κ : Type} [DecidableEq κ] {knd : PySem.KeyKind X.prog X.w κ} {val : κ → Tok → Value} {key : Value → κ} {S : κ → Bool}, SetK1 knd val key s.heap a S n → wpAny (model X.prog X.w) X.A (call (.builtin "len") [.ref a]) (EP X pins σ Q) X.xe s := by
    intro κ _ knd val key S R
    obtain ⟨o, es, ep, t, T⟩ := R
    have room := T.room
    have e := T.num
    unfold scanBound at room
    exact call_len_set T.here T.exact_ T.data T.fits (by omega) ⟨.int n, H, I.tok _, ⟨_, by rw [e]⟩, q⟩
  rcases how with ⟨S, hS⟩ | ⟨S, hS⟩
  · exact fin (I.hok a _ hS).1
  · exact fin (I.hok a _ hS).1
end
/-! ### sorted -/
theorem strs_are : ∀ (l : List Value), (∀ v ∈ l, ∃ k t, v = Value.str k t) → StrsAre l (l.map strOf)
  | [], _ => .nil
  | v :: l, h => by
    obtain ⟨k, t, rfl⟩ := h v List.mem_cons_self
    exact .cons k t (strs_are l fun u hu => h u (List.mem_cons_of_mem _ hu))
section
variable {P : Program} {w : World} {A : Around} {E : Value → Shared → Prop} {s : Shared}
theorem sortTxt {a : Addr} {S : Str → Bool} {n : Nat} {Q : Value → Shared → Prop} (R : SetK1 (PySem.strKind P w) (fun k t => Value.str k t) strOf s.heap a S n) (hh : A.handled = none)
    (hQ : ∀ (s2 : Shared) (p : Addr) (out : Array Value) (c : Nat) (ys : List Str), (∀ b o, s.heap.get? b = some o → s2.heap.get? b = some o) → s2.gens = s.gens → s2.os = s.os → s.heap.objs.size ≤ p → s2.heap.get? p = some (seqObj "list" out c) → StrsAre out.toList ys →
      sortedS ys = true → ys.Nodup → (∀ k, k ∈ ys ↔ S k = true) → ys.length = n → Q (.ref p) s2) :
    wpAny (model P w) A (call (.builtin "sorted") [.ref a]) Q E s := by
  obtain ⟨o, es, ep, t, T⟩ := R
  have small := T.room
  unfold scanBound at small
  refine Calls.call_function_entry kind_sorted plain_sorted entry_sorted (args_sorted1 _) ?_
  unfold Builtin.«sorted»
  refine wpAny_bind (m := checkCount "sorted" 1 1 _) (wpAny_pure (wpAny_bind (collect_set (A := A.in1) hh ⟨o, T.here, T.exact_.1, T.data⟩ T.fits T.room T.ris T.led fun s1 vs k1 z1 g1 o1 pm => ?_)))
  have len : vs.length = n := by rw [pm.length_eq, List.length_map, Array.length_toList, T.num]
  have few : vs.length ≤ sizeLine := by
    rw [len, sizeLine_eq]
    have := T.num
    omega
  have txt : StrsAre vs (vs.map strOf) := strs_are vs fun v hv => by
    obtain ⟨e, he, q⟩ := List.mem_map.mp (pm.mem_iff.mp hv)
    obtain ⟨k, tk, rfl⟩ := T.ent e he
    exact ⟨k, tk, q.symm⟩
  have pk : (vs.map strOf).Perm (keysOf strOf es) := by
    have q := pm.map strOf
    rw [List.map_map] at q
    exact q
  have at0 : (s1.heap.push (seqObj "list" vs.toArray 0)).get? s1.heap.objs.size = some (seqObj "list" vs.toArray 0) := Heap.get?_push_size _ rfl
  refine wpAny_bind (wpAny_newList (wpAny_bind (wpAny_holding (wpAny_call_entry slot_list_sort ⟨_, at0, rfl⟩ entry_list_sort
    (list_sort_treeKAny PyProof.Rows.strKind_oneLt at0 txt.keysOf (fun v1 v2 rest e => keyKind_strs (by rw [← e]; exact txt)) few fun st p1 p2 => ⟨_, rfl, ?_⟩) (args_list_sort _)))) few)
  obtain ⟨ys, y1, y2, y3⟩ := sorted_out_str txt p1 p2
  obtain ⟨c, hc⟩ := sortedHeap_at (vs := vs) (out := (arrOf st).map (·.2)) at0
  have py : ys.Perm (keysOf strOf es) := y2.trans pk
  refine wpAny_pure ⟨_, rfl, hQ _ s1.heap.objs.size _ c ys (fun b u e => ?_) g1 o1 z1 hc y1 y3 (py.nodup_iff.mpr T.nodup) (fun k => by rw [py.mem_iff, ← T.mem k]) (by rw [y2.length_eq, List.length_map, len])⟩
  have q := k1 b u e
  have lt := Heap.lt_size q
  exact (sortedHeap_old (Nat.ne_of_lt lt) (by rw [size_push']; exact Nat.lt_succ_of_lt lt)).trans (Heap.get?_push_of_some _ q)
end
section
variable {X : Cx}
def rSortTxt (P : Program) (w : World) : List V → Hp → VK → Prop := fun xs H Q => ∃ (a : Addr) (S : Str → Bool) (n : Nat), xs = [.ref a] ∧ H a = some (TxtSet P w a S n) ∧
  ∀ p ys, H p = none → sortedS ys = true → ys.Nodup → (∀ k, k ∈ ys ↔ S k = true) → ys.length = n → Q (.ref p) (upd H p (.lst (ys.map V.str)))
theorem cr_sortTxt (hc : X.calm = true) : CallR X (.builtin "sorted") (rSortTxt X.prog X.w) := by
  intro pins s σ H xs us Q I r h
  obtain ⟨a, S, n, rfl, hS, q⟩ := h
  rw [Vals.ref1 r]
  have R : SetK1 (PySem.strKind X.prog X.w) (fun k t => Value.str k t) strOf s.heap a S n := (I.hok a _ hS).1
  have room : n < 4096 := by
    obtain ⟨o, es, ep, t, T⟩ := R
    have := T.room
    rw [T.num] at this
    exact this
  refine sortTxt R (I.ok.hd hc) fun s2 p out c ys k2 g2 o2 hp at2 y1 y3 nd mem len => ?_
  have sz : (ys.map V.str).length ≤ sizeLine := by
    rw [List.length_map, len, sizeLine_eq]
    omega
  exact ⟨.ref p, _, I.call' (ch := []) o2 (Un.laid k2 hp (I.hok.fresh hp)) (I.hok.laid (o := .lst (ys.map V.str)) k2 hp ⟨sz, out.toList, c, vals_of_strs y1, at2⟩) (by rw [g2]; exact I.bare) (fun _ z => nomatch z), rfl, q p ys (I.hok.fresh hp) y3 nd mem len⟩
end
section
variable {P : Program} {w : World} {A : Around} {E : Value → Shared → Prop} {s : Shared}
theorem sortInt {a : Addr} {S : Int → Bool} {n : Nat} {Q : Value → Shared → Prop} (R : SetK1 (intKind P w) (fun k t => Value.int k t) Builtin.Re.reRawOf s.heap a S n) (hh : A.handled = none)
    (hQ : ∀ (s2 : Shared) (p : Addr) (out : Array Value) (c : Nat) (ys : List Int), (∀ b o, s.heap.get? b = some o → s2.heap.get? b = some o) → s2.gens = s.gens → s2.os = s.os → s.heap.objs.size ≤ p → s2.heap.get? p = some (seqObj "list" out c) → IntsAre out.toList ys →
      ys.Pairwise (· < ·) → (∀ k, k ∈ ys ↔ S k = true) → ys.length = n → Q (.ref p) s2) :
    wpAny (model P w) A (call (.builtin "sorted") [.ref a]) Q E s := by
  obtain ⟨o, es, ep, t, T⟩ := R
  have small := T.room
  unfold scanBound at small
  refine Calls.call_function_entry kind_sorted plain_sorted entry_sorted (args_sorted1 _) ?_
  unfold Builtin.«sorted»
  refine wpAny_bind (m := checkCount "sorted" 1 1 _) (wpAny_pure (wpAny_bind (collect_set (A := A.in1) hh ⟨o, T.here, T.exact_.1, T.data⟩ T.fits T.room T.ris T.led fun s1 vs k1 z1 g1 o1 pm => ?_)))
  have len : vs.length = n := by rw [pm.length_eq, List.length_map, Array.length_toList, T.num]
  have few : vs.length ≤ sizeLine := by
    rw [len, sizeLine_eq]
    have := T.num
    omega
  have num : IntsAre vs (vs.map Builtin.Re.reRawOf) := ints_of vs fun v hv => by
    obtain ⟨e, he, q⟩ := List.mem_map.mp (pm.mem_iff.mp hv)
    obtain ⟨k, tk, rfl⟩ := T.ent e he
    exact ⟨k, tk, q.symm⟩
  have pk : (vs.map Builtin.Re.reRawOf).Perm (keysOf Builtin.Re.reRawOf es) := by
    have q := pm.map Builtin.Re.reRawOf
    rw [List.map_map] at q
    exact q
  have at0 : (s1.heap.push (seqObj "list" vs.toArray 0)).get? s1.heap.objs.size = some (seqObj "list" vs.toArray 0) := Heap.get?_push_size _ rfl
  refine wpAny_bind (wpAny_newList (wpAny_bind (wpAny_holding (wpAny_call_entry slot_list_sort ⟨_, at0, rfl⟩ entry_list_sort (list_sort_treeAny at0 num few fun out ys y1 y2 y3 => ⟨_, rfl, ?_⟩) (args_list_sort _)))) few)
  obtain ⟨c, hc⟩ := sortedHeap_at (vs := vs) (out := out) at0
  have py : ys.Perm (keysOf Builtin.Re.reRawOf es) := y2.trans pk
  refine wpAny_pure ⟨_, rfl, hQ _ s1.heap.objs.size _ c ys (fun b u e => ?_) g1 o1 z1 hc y1 (lt_of_le_nodup ys y3 (py.nodup_iff.mpr T.nodup)) (fun k => by rw [py.mem_iff, ← T.mem k]) (by rw [y2.length_eq, List.length_map, len])⟩
  have q := k1 b u e
  have lt := Heap.lt_size q
  exact (sortedHeap_old (Nat.ne_of_lt lt) (by rw [size_push']; exact Nat.lt_succ_of_lt lt)).trans (Heap.get?_push_of_some _ q)
end
section
variable {X : Cx}
def rSortInt (P : Program) (w : World) : List V → Hp → VK → Prop := fun xs H Q => ∃ (a : Addr) (S : Int → Bool) (n : Nat), xs = [.ref a] ∧ H a = some (IntSet P w a S n) ∧
  ∀ (p : Addr) (ys : List Int), H p = none → ys.Pairwise (· < ·) → (∀ k, k ∈ ys ↔ S k = true) → ys.length = n → Q (.ref p) (upd H p (.lst (ys.map V.int)))
theorem cr_sortInt (hc : X.calm = true) : CallR X (.builtin "sorted") (rSortInt X.prog X.w) := by
  intro pins s σ H xs us Q I r h
  obtain ⟨a, S, n, rfl, hS, q⟩ := h
  rw [Vals.ref1 r]
  have R : SetK1 (intKind X.prog X.w) (fun k t => Value.int k t) Builtin.Re.reRawOf s.heap a S n := (I.hok a _ hS).1
  have room : n < 4096 := by
    obtain ⟨o, es, ep, t, T⟩ := R
    have := T.room
    rw [T.num] at this
    exact this
  refine sortInt R (I.ok.hd hc) fun s2 p out c ys k2 g2 o2 hp at2 y1 asc mem len => ?_
  have sz : (ys.map V.int).length ≤ sizeLine := by
    rw [List.length_map, len, sizeLine_eq]
    omega
  exact ⟨.ref p, _, I.call' (ch := []) o2 (Un.laid k2 hp (I.hok.fresh hp)) (I.hok.laid (o := .lst (ys.map V.int)) k2 hp ⟨sz, out.toList, c, vals_of_ints y1, at2⟩) (by rw [g2]; exact I.bare) (fun _ z => nomatch z), rfl, q p ys (I.hok.fresh hp) asc mem len⟩
end
/-! ### numbers below a bound, each once, ascending -/
def asc (m : Nat) (cs : List Nat) : List Nat := (List.range m).filter fun c => decide (c ∈ cs)
theorem asc_up (m : Nat) (cs : List Nat) : (asc m cs).Pairwise (· < ·) := List.Pairwise.filter _ List.pairwise_lt_range
theorem mem_asc {m : Nat} {cs : List Nat} (h : ∀ c ∈ cs, c < m) {c : Nat} : c ∈ asc m cs ↔ c ∈ cs := by
  unfold asc
  rw [List.mem_filter, List.mem_range, decide_eq_true_eq]
  exact ⟨fun z => z.2, fun z => ⟨h c z, z⟩⟩
theorem up_same : ∀ {xs ys : List Nat}, xs.Pairwise (· < ·) → ys.Pairwise (· < ·) → (∀ c, c ∈ xs ↔ c ∈ ys) → xs = ys
  | [], [], _, _, _ => rfl
  | [], y :: ys, _, _, h => absurd ((h y).mpr List.mem_cons_self) (by simp)
  | x :: xs, [], _, _, h => absurd ((h x).mp List.mem_cons_self) (by simp)
  | x :: xs, y :: ys, hx, hy, h => by
    obtain ⟨x1, x2⟩ := List.pairwise_cons.mp hx
    obtain ⟨y1, y2⟩ := List.pairwise_cons.mp hy
    have e : x = y := by
      rcases List.mem_cons.mp ((h x).mp List.mem_cons_self) with a | a
      · exact a
      · rcases List.mem_cons.mp ((h y).mpr List.mem_cons_self) with b | b
        · exact b.symm
        · have := y1 x a
          have := x1 y b
          omega
    subst e
    congr 1
    refine up_same x2 y2 fun c => ?_
    constructor
    · intro z
      rcases List.mem_cons.mp ((h c).mp (List.mem_cons_of_mem _ z)) with q | q
      · have := x1 c z
        omega
      · exact q
    · intro z
      rcases List.mem_cons.mp ((h c).mpr (List.mem_cons_of_mem _ z)) with q | q
      · have := y1 c z
        omega
      · exact q
theorem asc_is {m : Nat} {cs xs : List Nat} (hx : xs.Pairwise (· < ·)) (hc : ∀ c ∈ cs, c < m) (h : ∀ c, c ∈ xs ↔ c ∈ cs) : xs = asc m cs := up_same hx (asc_up m cs) fun c => by rw [h, mem_asc hc]
theorem one1_inj {c d : Nat} (h : one1 c = one1 d) : c = d := by
  injection h with h
  injection h with h
  injection h with h
theorem one1_ge {p d : Nat} (h : ltCps (one1 d).cps.toList (one1 p).cps.toList = false) : p ≤ d := by
  rw [ltCps_eq] at h
  have nl : ¬ ([d] : List Nat) < [p] := by simpa using h
  have : ¬ d < p := fun z => nl (List.cons_lt_cons_iff.mpr (Or.inl z))
  omega
theorem rise1 : ∀ {ds : List Nat} {p : Nat}, risingS (one1 p) (ds.map one1) = true → True ∧ (p :: ds).Pairwise (· ≤ ·)
  | [], p, _ => ⟨trivial, List.pairwise_singleton _ _⟩
  | d :: ds, p, h => by
    have h2 : (!ltCps (one1 d).cps.toList (one1 p).cps.toList && risingS (one1 d) (ds.map one1)) = true := h
    rw [Bool.and_eq_true, Bool.not_eq_true'] at h2
    have g := one1_ge h2.1
    obtain ⟨_, ih⟩ := rise1 h2.2
    refine ⟨trivial, List.pairwise_cons.mpr ⟨fun e he => ?_, ih⟩⟩
    rcases List.mem_cons.mp he with z | z
    · rw [z]
      exact g
    · exact Nat.le_trans g ((List.pairwise_cons.mp ih).1 e z)
/-- texts of one sign, sorted: their codes ascend -/
theorem codes_up {ds : List Nat} (h : sortedS (ds.map one1) = true) (nd : (ds.map one1).Nodup) : ds.Pairwise (· < ·) := by
  have le : ds.Pairwise (· ≤ ·) := by
    cases ds with
    | nil => exact List.Pairwise.nil
    | cons d ds => exact (rise1 h).2
  have ne : ds.Pairwise (· ≠ ·) := List.Pairwise.of_map one1 (fun a b hne e => hne (congrArg one1 e)) nd
  exact (le.and ne).imp fun ⟨a, b⟩ => Nat.lt_of_le_of_ne a b
theorem txt_asc {m : Nat} {cs : List Nat} (hc : ∀ c ∈ cs, c < m) {ys : List Str} (h1 : sortedS ys = true) (h2 : ys.Nodup) (h3 : ∀ k, k ∈ ys ↔ k ∈ cs.map one1) : ys = (asc m cs).map one1 := by
  have all1 : ∀ k ∈ ys, ∃ c, k = one1 c := fun k hk => by
    obtain ⟨c, _, rfl⟩ := List.mem_map.mp ((h3 k).mp hk)
    exact ⟨c, rfl⟩
  obtain ⟨ds, rfl⟩ : ∃ ds : List Nat, ys = ds.map one1 := by
    clear h1 h2 h3
    induction ys with
    | nil => exact ⟨[], rfl⟩
    | cons y ys ih =>
      obtain ⟨c, rfl⟩ := all1 y List.mem_cons_self
      obtain ⟨ds, rfl⟩ := ih fun k hk => all1 k (List.mem_cons_of_mem _ hk)
      exact ⟨c :: ds, rfl⟩
  rw [asc_is (codes_up h1 h2) hc fun c => ?_]
  have q := h3 (one1 c)
  constructor
  · intro z
    obtain ⟨d, hd, e⟩ := List.mem_map.mp (q.mp (List.mem_map_of_mem (f := one1) z))
    rw [← one1_inj e]
    exact hd
  · intro z
    obtain ⟨d, hd, e⟩ := List.mem_map.mp (q.mpr (List.mem_map_of_mem (f := one1) z))
    rw [← one1_inj e]
    exact hd
section
variable {X : Cx} {K : PySem.W.Frag} {P : Program} {w : World}
theorem ksetS (hc : X.calm = true) (h : X.K = K := by rfl) (h2 : X.prog = P := by rfl) (h3 : X.w = w := by rfl) : CallR X (.type "set") (rSetS K P w) := by
  subst h h2 h3
  exact cr_setS hc
theorem ksetI (hc : X.calm = true) (h : X.K = K := by rfl) (h2 : X.prog = P := by rfl) (h3 : X.w = w := by rfl) : CallR X (.type "set") (rSetI K P w) := by
  subst h h2 h3
  exact cr_setI hc
theorem klenSet (h2 : X.prog = P := by rfl) (h3 : X.w = w := by rfl) : CallR X (.builtin "len") (rLenSet P w) := by
  subst h2 h3
  exact cr_lenSet
theorem ksortTxt (hc : X.calm = true) (h2 : X.prog = P := by rfl) (h3 : X.w = w := by rfl) : CallR X (.builtin "sorted") (rSortTxt P w) := by
  subst h2 h3
  exact cr_sortTxt hc
theorem ksortInt (hc : X.calm = true) (h2 : X.prog = P := by rfl) (h3 : X.w = w := by rfl) : CallR X (.builtin "sorted") (rSortInt P w) := by
  subst h2 h3
  exact cr_sortInt hc
end
end LX

/-! ### {elt for target in iter if ..}, elt a text: a new set of texts -/
namespace LX
open PySem PySem.Spec PyProof.Rows L2 PpSet
section
variable {X : Cx}
/-- one more text into the set at D -/
theorem addT {ps : List (Addr × Obj)} {σ : L2.St} {G : Hp} {z : Shared} {E : Value → Shared → Prop} {D : Addr} {S : Str → Bool} {n : Nat} {y : Str} {tk : Tok} {Q : Value → Shared → Prop} (V : Inv X ps σ G z) (gD : G D = some (TxtSet X.prog X.w D S n)) (few : n + 1 < scanBound)
    (q : ∀ z', Inv X ps σ (upd G D (TxtSet X.prog X.w D (fun k => S k || decide (k = y)) (if S y = true then n else n + 1))) z' → Q .none z') : wpAny (model X.prog X.w) X.A (call (.builtin "set.add") [.ref D, .str y tk]) Q E z := by
  have R : SetK1 (PySem.strKind X.prog X.w) (fun k t => Value.str k t) strOf z.heap D S n := (V.hok D _ gD).1
  refine wpAny_call_entry PySem.F.slot_set_add (SetK1.setOf (okS X.prog X.w) R).typeIs PySem.F.entry_set_add ?_ (PySem.F.args_set_add_2 _ _)
  unfold Builtin.«set.add» Builtin.Frozenset.oneOther Builtin.Frozenset.addrOf setAdd
  simp only [List.isEmpty_nil, bind_assoc]
  refine wpAny_bind (wpAny_pure ?_)
  try dsimp only
  refine wpAny_bind (wpAny_pure ?_)
  try dsimp only
  refine wpAny_bind (wpAny_holding (wpAny_bind ((PySem.strKind X.prog X.w).pyHash ((okS X.prog X.w).isv y y tk |>.mpr rfl) ?_)))
  refine addK (okS X.prog X.w) (s := { z with toks := z.toks + 1 }) R few fun h' sb new => ?_
  show wpAny _ _ (ret Value.none) _ _ _
  exact wpAny_pure ⟨_, rfl, q _ (V.write (e := D) (t' := z.toks + 1) (by rw [gD]; trivial) (.inl rfl) (fun b u hb hu => (sb.2 b hb).trans hu) new.lives (txtNew new))⟩
def tScT (P : Program) (w : World) (wi : TI) (g : TG) (tt : TT) (te : TE) (vs : List Nat) : TE := fun σ G Q => wi σ G fun J G1 => ∀ D, G1 D = none → ∃ W : Nat → Nat → Hp → Prop, (∃ m, W 0 m (upd G1 D (TxtSet P w D (fun _ => false) 0))) ∧ ∀ j m G, W j m G →
  (J.stop j G ∧ Q (.ref D) G) ∨ (J.go j G ∧ ∃ Z : Hp → Prop, (∀ G', Z G' → ∃ m', m' < m ∧ W (j + 1) m' G') ∧ ∀ x G', J.yld j G x G' → g x (wipe σ vs) G' fun τ G2 => wipe τ vs = wipe σ vs ∧ tt τ G2 fun b G3 =>
    if b = true then te τ G3 fun y G4 => ∃ (c : Str) (S : Str → Bool) (n : Nat), y = .str c ∧ G4 D = some (TxtSet P w D S n) ∧ n + 1 < scanBound ∧ Z (upd G4 D (TxtSet P w D (fun k => S k || decide (k = c)) (if S c = true then n else n + 1))) else Z G3)
theorem scT_core {ps : List (Addr × Obj)} {z : Shared} {σ : L2.St} {G : Hp} {Q : VK} {el tg it : Expr} {fs : List Expr} {sc : Scope} {ow : List (PySem.Str × Nat)} {p1 p2 : Pos} {wi : TI} {g : TG} {tt : TT} {te : TE} {use : Option (Value → Sem Unit)} {Qf : Value → Shared → Prop}
    (calm : X.calm = true) (nd : X.N.Nodup) (V : Inv X ps σ G z) (pi : PI X tg it wi) (ok : BlkOk X.N X.env.scope sc ow)
    (hg : ∀ (z : Shared) (G : Hp) (C : Addr) (cl : List (PySem.Str × Addr)) (fp : List Addr), PG (X.blk z G sc (compEnvC sc cl C X.env) fp) tg g)
    (ht : ∀ (z : Shared) (G : Hp) (C : Addr) (cl : List (PySem.Str × Addr)) (fp : List Addr), PTs (X.blk z G sc (compEnvC sc cl C X.env) fp) fs tt)
    (he : ∀ (z : Shared) (G : Hp) (C : Addr) (cl : List (PySem.Str × Addr)) (fp : List Addr), PE (X.blk z G sc (compEnvC sc cl C X.env) fp) el te)
    (fold : ∀ x, foldedSetIterable it X.env x = pure x) (q : tScT X.prog X.w wi g tt te (ow.map (·.2)) σ G Q)
    (last : ∀ D C z' m G', Inv X ps σ G' z' → Q (.ref D) G' → z'.heap.Ns C m → FpOk X ps G' C → compPost (model X.prog X.w) X.A X.xe use Qf (.ref D) C (.ok .next) z') :
    wpAny (model X.prog X.w) X.A (comprehension (.SetComp el [⟨tg, it, fs, 0⟩] sc p1) sc X.env p2 (newSet (.type "set")) false (eval it X.env) use) Qf X.xe z := by
  have frees : ∀ y ∈ sc.names, y.2 = .free → ∃ c, X.env.cells.lookup y.1 = some c := by
    intro y hy e
    have := ok.free y hy e
    exact V.ok.has _ this
  refine wpAny_comprehension_free (use := use) rfl fold (closure_ok frees) ok.kind (by intro y hy e; rw [ok.uniq y hy, e]) (thn (pi.run ps z σ G _ V q) ?_)
  intro xv z1 h1
  refine thn h1 ?_
  rintro itv z2 ⟨ia, fp, tn, J, G2, rfl, V2, T, st2, f2, h2⟩
  refine newSet_ok (newEnv_comp ?_)
  -- the new set stands at the end of the heap
  obtain ⟨D, eD⟩ : ∃ D, D = z2.heap.objs.size := ⟨_, rfl⟩
  rw [← eD]
  obtain ⟨W, ⟨m0, w0⟩, turn⟩ := h2 D (V2.hok.fresh (Nat.le_of_eq eD.symm))
  obtain ⟨z3, e3⟩ : ∃ z3 : Shared, z3 = { z2 with heap := z2.heap.push { cls := .type "set", dict := none, data := .set #[] 0 (.fresh 0 0 (!X.w.params.followText "set-order")) } } := ⟨_, rfl⟩
  have V3 : Inv X ps σ (upd G2 D (TxtSet X.prog X.w D (fun _ => false) 0)) z3 := by
    rw [e3, eD]
    exact V2.laid (t' := z2.toks) (fun b o e => Heap.get?_push_of_some _ e) (Nat.le_refl _) (txtNew freshK)
  have hz3 : z3.heap.objs.size = z2.heap.objs.size + 1 := by rw [e3]; exact Heap.size_push _ _
  have old3 : ∀ b o, z2.heap.get? b = some o → z3.heap.get? b = some o := by
    rw [e3]
    exact fun b o e => Heap.get?_push_of_some _ e
  rw [← e3]
  clear e3
  generalize eG : upd G2 D (TxtSet X.prog X.w D (fun _ => false) 0) = G3 at V3 w0
  have f3 : ∀ b ∈ fp, FpOk X ps G3 b ∧ b < z3.heap.objs.size := by
    intro b hb
    obtain ⟨o, live, _⟩ := T.obj _ _ st2 b hb
    have lt := Heap.lt_size live
    have ne : b ≠ D := fun c => Nat.ne_of_lt lt (c.trans eD)
    obtain ⟨k1, k2⟩ := f2 b hb
    exact ⟨⟨by rw [← eG, upd_ne ne]; exact k1, k2⟩, by rw [hz3]; exact Nat.lt_succ_of_lt lt⟩
  have st3 : tn 0 z3.heap := T.keep _ _ _ st2 fun b _ => old3 b
  have V4 := block_start V3 ok nd f3
  -- inside the block
  have Pg := hg z3 G3 z3.heap.objs.size (cellsFrom (z3.heap.objs.size + 1) sc.names (cloFrom X.env.cells sc.names [])) fp
  have Pt := ht z3 G3 z3.heap.objs.size (cellsFrom (z3.heap.objs.size + 1) sc.names (cloFrom X.env.cells sc.names [])) fp
  have Pe := he z3 G3 z3.heap.objs.size (cellsFrom (z3.heap.objs.size + 1) sc.names (cloFrom X.env.cells sc.names [])) fp
  have keeps : ∀ b o, z3.heap.get? b = some o → (pushCells (z3.heap.push { cls := .type "dict", data := .dict #[] }) sc.names).get? b = some o := fun b o e => pushCells_keeps _ _ _ _ (Heap.get?_push_of_some _ e)
  have st4 : tn 0 (pushCells (z3.heap.push { cls := .type "dict", data := .dict #[] }) sc.names) := T.keep _ _ _ st3 fun b _ => keeps b
  have eB : (compEnvC sc (cellsFrom (z3.heap.objs.size + 1) sc.names (cloFrom X.env.cells sc.names [])) z3.heap.objs.size X.env).locals = z3.heap.objs.size := rfl
  show codeAny _ _ (.compStart (.SetComp el [⟨tg, it, fs, 0⟩] sc p1) 0 (.ref ia) (.ref D) (compEnvC sc (cellsFrom (z3.heap.objs.size + 1) sc.names (cloFrom X.env.cells sc.names [])) z3.heap.objs.size X.env)) (compPost (model X.prog X.w) X.A X.xe use Qf (.ref D) z3.heap.objs.size) { z3 with heap := pushCells (z3.heap.push { cls := .type "dict", data := .dict #[] }) sc.names }
  generalize compEnvC sc (cellsFrom (z3.heap.objs.size + 1) sc.names (cloFrom X.env.cells sc.names [])) z3.heap.objs.size X.env = B at V4 Pg Pt Pe eB ⊢
  generalize e4 : ({ z3 with heap := pushCells (z3.heap.push { cls := .type "dict", data := .dict #[] }) sc.names } : Shared) = z4 at V4 ⊢
  have st4 : tn 0 z4.heap := by rw [← e4]; exact st4
  let Y : Cx := X.blk z3 G3 sc B fp
  have safe : ∀ {τ : L2.St} {G' : Hp} {z' : Shared}, Inv Y [] τ G' z' → (∀ b ∈ fp, G' b = none) → ∀ b ∈ fp, FpOk Y [] G' b := by
    intro τ G' z' U off b hb
    exact ⟨off b hb, (U.ok.exf b hb).1, U.ok.exfs b hb, Or.inl hb, (fun x c e => (U.ok.exf b hb).2 x c e), fun r hr => nomatch (show r ∈ ([] : List (Addr × Obj)) from hr)⟩
  have loop : codeAny (model X.prog X.w) X.A (.compLoop (.SetComp el [⟨tg, it, fs, 0⟩] sc p1) 0 (.ref ia) (.ref D) B) (compPost (model X.prog X.w) X.A X.xe use Qf (.ref D) z3.heap.objs.size) z4 := by
    refine compLoopS_any (fun n z' => ∃ j G', Inv Y [] (wipe σ (ow.map (·.2))) G' z' ∧ tn j z'.heap ∧ (∀ b ∈ fp, G' b = none) ∧ W j n G') ?_ m0 ⟨0, G3, V4, st4, fun b hb => (f3 b hb).1.1, w0⟩
    rintro n z5 ⟨j, G5, V5, st5, off5, w5⟩
    rcases turn j n G5 w5 with ⟨stop, fin⟩ | ⟨go, Z, hZ, step⟩
    · refine thnF (T.done Y rfl rfl rfl calm j [] z5 _ G5 (fun _ _ => False) V5 (safe V5 off5) st5 stop) ?_
      rintro r z6 ⟨rfl, V6⟩
      obtain ⟨m, hm, _⟩ := V6.loc
      have hm : z6.heap.Ns B.locals m := hm
      have free6 : G5 B.locals = none := V6.free
      rw [eB] at hm free6
      have V7 : Inv X ps σ G5 z6 := V3.call' (ch := fp) V6.os V6.base V6.hok V6.bare fun b hb => by
        obtain ⟨⟨k1, k2, k3, k4, k5, k6⟩, _⟩ := f3 b hb
        exact ⟨k4, k2, k5, k6⟩
      exact last D _ z6 m G5 V7 fin hm (V3.fpOk (Nat.le_refl _) free6)
    · refine thnF (T.item Y rfl rfl rfl calm j [] z5 _ G5 (fun _ _ => False) V5 (safe V5 off5) st5 go) ?_
      rintro r z6 ⟨u, rfl, h6⟩
      refine thnF h6 ?_
      rintro _ z7 ⟨x, G7, V7, r7, y7, st7, off7⟩
      refine thnF (Pg.run _ z7 _ G7 x u _ (V7.pinned (safe V7 off7) (T.obj _ _ st7)) r7 (step x G7 y7)) ?_
      rintro _ z8 ⟨τ, G8, V8, eτ, h8⟩
      refine thnF (Pt.run _ z8 τ G8 _ V8 h8) ?_
      rintro b z9 ⟨G9, V9, h9⟩
      have next : ∀ {z' : Shared} {G' : Hp}, Inv Y ([] ++ pinsAt fp z7.heap) τ G' z' → Z G' → ∃ m, m < n ∧ ∃ j G', Inv Y [] (wipe σ (ow.map (·.2))) G' z' ∧ tn j z'.heap ∧ (∀ b ∈ fp, G' b = none) ∧ W j m G' := by
        intro z' G' U hG
        obtain ⟨m', lt, w'⟩ := hZ G' hG
        have pinned : ∀ b ∈ fp, ∀ o, z7.heap.get? b = some o → z'.heap.get? b = some o ∧ G' b = none := by
          intro b hb o e
          have k := U.pin (b, o) (List.mem_append_right _ (List.mem_append_right _ (mem_pinsAt hb e)))
          exact ⟨k.1, k.2.1⟩
        refine ⟨m', lt, j + 1, G', (U.unpinned (pins := [])).weak (by rw [← eτ, wipe_length]) ?_, T.keep _ _ _ st7 ?_, ?_, w'⟩
        · intro i v e
          rw [← eτ] at e
          exact (wipe_some e).1
        · exact fun b hb o e => (pinned b hb o e).1
        · intro b hb
          obtain ⟨o, e, _⟩ := T.obj _ _ st7 b hb
          exact (pinned b hb o e).2
      cases b with
      | false =>
        rw [if_neg Bool.false_ne_true] at h9 ⊢
        exact next V9 h9
      | true =>
        rw [if_pos rfl] at h9 ⊢
        refine thnF (Pe.run _ z9 τ G9 _ V9 h9) ?_
        rintro v z10 ⟨_, G10, V10, r10, c, S, k, rfl, gD, few, hG⟩
        obtain ⟨tk, rfl⟩ : ∃ tk, v = Value.str c tk := r10
        exact addT (X := Y) V10 gD few fun z11 V11 => next V11 hG
  exact codeAny_compStart_set loop (T.self X.A 0 _ _ _ st4 loop)
theorem pe_scT {el tg it : Expr} {fs : List Expr} {sc : Scope} {own : List (PySem.Str × Nat)} {p1 : Pos} {P : Program} {w : World} {wi : TI} {g : TG} {tt : TT} {te : TE} (calm : X.calm = true) (nd : X.N.Nodup) (pi : PI X tg it wi) (ok : BlkOk X.N X.env.scope sc own)
    (hg : ∀ (z : Shared) (G : Hp) (C : Addr) (cl : List (PySem.Str × Addr)) (fp : List Addr), PG (X.blk z G sc (compEnvC sc cl C X.env) fp) tg g)
    (ht : ∀ (z : Shared) (G : Hp) (C : Addr) (cl : List (PySem.Str × Addr)) (fp : List Addr), PTs (X.blk z G sc (compEnvC sc cl C X.env) fp) fs tt)
    (he : ∀ (z : Shared) (G : Hp) (C : Addr) (cl : List (PySem.Str × Addr)) (fp : List Addr), PE (X.blk z G sc (compEnvC sc cl C X.env) fp) el te)
    (fold : ∀ x, foldedSetIterable it X.env x = pure x := by intro _; rfl) (hP : X.prog = P := by rfl) (hw : X.w = w := by rfl) :
    PE X (.SetComp el [⟨tg, it, fs, 0⟩] sc p1) (tScT P w wi g tt te (own.map (·.2))) := by
  subst hP
  subst hw
  refine ⟨fun ps z σ G Q V q => ?_⟩
  rw [eval_SetComp]
  refine scT_core calm nd V pi ok hg ht he fold q ?_
  rintro D C z' m G' V' fin hm ⟨f0, f1, f2, f3, f4, f5⟩
  exact ⟨m, hm, fun h'' sb => ⟨.ref D, G', V'.turned (t' := z'.toks) (fun b o hb e => (sb.2 b hb).trans e) f0 f1 f3 f4 f5, rfl, fin⟩⟩
end
end LX
namespace LX
open PySem PySem.Spec PyProof.Rows L2
section
variable {P : Program} {w : World} {K : PySem.W.Frag} {a D : Addr} {g : TG} {tt : TT} {te : TE} {vs : List Nat} {σ : L2.St} {H1 : Hp} {Qd : Hp → Prop}
theorem rd_scT {wi : TI} {H : Hp} {Q : VK} (q : wi σ H fun J G1 => ∀ D, G1 D = none → ∃ W : Nat → Nat → Hp → Prop, (∃ m, W 0 m (upd G1 D (TxtSet P w D (fun _ => false) 0))) ∧ ∀ j m G, W j m G →
  (J.stop j G ∧ Q (.ref D) G) ∨ (J.go j G ∧ ∃ Z : Hp → Prop, (∀ G', Z G' → ∃ m', m' < m ∧ W (j + 1) m' G') ∧ ∀ x G', J.yld j G x G' → g x (wipe σ vs) G' fun τ G2 => wipe τ vs = wipe σ vs ∧ tt τ G2 fun b G3 =>
    if b = true then te τ G3 fun y G4 => ∃ (c : Str) (S : Str → Bool) (n : Nat), y = .str c ∧ G4 D = some (TxtSet P w D S n) ∧ n + 1 < scanBound ∧ Z (upd G4 D (TxtSet P w D (fun k => S k || decide (k = c)) (if S c = true then n else n + 1))) else Z G3)) : tScT P w wi g tt te vs σ H Q := q
/-- over a row: the letters of some of its people -/
theorem sc_row {ts : List Addr} {r : Row} (f : Nat × Nat → Option Nat) (hD : H1 D = none) (ha : H1 a = some (.lst (ts.map V.ref))) (ht : TupsAt H1 ts r) (hz : r.length ≤ 1000)
    (hs : ∀ t e, e ∈ r → t ∈ ts → ∀ H, Same H1 H → H t = some (.tup (pr e)) → ∀ (T : V → Hp → Prop) (F : Hp → Prop), (∀ c H', f e = some c → Same H H' → T (sg c) H') → (∀ H', f e = none → Same H H' → F H') →
      g (.ref t) (wipe σ vs) H fun σ2 H2 => wipe σ2 vs = wipe σ vs ∧ tt σ2 H2 fun b H3 => if b = true then te σ2 H3 T else F H3)
    (hd : ∀ H' n, Same H1 H' → H' D = some (TxtSet P w D (fun k => decide (k ∈ (r.filterMap f).map one1)) n) → Qd H') :
    ∃ W : Nat → Nat → Hp → Prop, (∃ m, W 0 m (upd H1 D (TxtSet P w D (fun _ => false) 0))) ∧ ∀ j m G, W j m G →
      ((Itl K a).stop j G ∧ Qd G) ∨ ((Itl K a).go j G ∧ ∃ Z : Hp → Prop, (∀ G', Z G' → ∃ m', m' < m ∧ W (j + 1) m' G') ∧ ∀ x G', (Itl K a).yld j G x G' → g x (wipe σ vs) G' fun τ G2 => wipe τ vs = wipe σ vs ∧ tt τ G2 fun b G3 =>
        if b = true then te τ G3 fun y G4 => ∃ (c : Str) (S : Str → Bool) (n : Nat), y = .str c ∧ G4 D = some (TxtSet P w D S n) ∧ n + 1 < scanBound ∧ Z (upd G4 D (TxtSet P w D (fun k => S k || decide (k = c)) (if S c = true then n else n + 1))) else Z G3) := by
  have hl := ht.len
  have step : ∀ (i : Nat) (e : Nat × Nat), r[i]? = some e → ∀ k : Str, decide (k ∈ ((r.take (i + 1)).filterMap f).map one1) = (decide (k ∈ ((r.take i).filterMap f).map one1) || decide (f e = some (k.cps.getD 0 0) ∧ k = one1 (k.cps.getD 0 0))) := by
    intro i e he k
    rw [take_of he, List.filterMap_append, List.map_append, Bool.eq_iff_iff, Bool.or_eq_true, decide_eq_true_iff, decide_eq_true_iff, decide_eq_true_iff, List.mem_append]
    refine or_congr Iff.rfl ?_
    cases q : f e with
    | none =>
      rw [List.filterMap_cons_none q]
      constructor
      · exact fun z => nomatch z
      · exact fun z => nomatch z.1
    | some c =>
      rw [List.filterMap_cons_some q]
      show k ∈ [one1 c] ↔ _
      rw [List.mem_singleton]
      constructor
      · rintro rfl
        exact ⟨rfl, rfl⟩
      · rintro ⟨h1, h2⟩
        rw [h2]
        injection h1 with h1
        rw [← h1]
  have W : Walk (Itl K a) (ts.map V.ref).length (fun H => Same H1 H) (YAt (ts.map V.ref)) := walk_list.mono (fun _ s => SqL.of (s _ _ ha)) fun _ _ _ _ _ _ y => y
  refine ⟨fun j m H => m = r.length - j ∧ j ≤ r.length ∧ Same H1 H ∧ ∃ n, n ≤ j ∧ H D = some (TxtSet P w D (fun k => decide (k ∈ ((r.take j).filterMap f).map one1)) n), ⟨r.length, by simp, Nat.zero_le _, sNew hD, 0, Nat.le_refl _, ?_⟩, ?_⟩
  · rw [upd_same]
    have : (fun k : Str => decide (k ∈ ((r.take 0).filterMap f).map one1)) = fun _ => false := by
      funext k
      rfl
    rw [this]
  · rintro j m H ⟨rfl, hj, s, n, hn, e⟩
    rw [List.length_map, hl] at W
    by_cases lt : j < r.length
    · refine Or.inr ⟨W.goes j H lt s, fun G' => Same H1 G' ∧ ∃ n, n ≤ j + 1 ∧ G' D = some (TxtSet P w D (fun k => decide (k ∈ ((r.take (j + 1)).filterMap f).map one1)) n), fun G' ⟨h1, h2⟩ => ⟨r.length - (j + 1), by omega, rfl, lt, h1, h2⟩, fun x G' y => ?_⟩
      obtain ⟨rfl, hx⟩ := W.yields j H x G' lt s y
      rw [List.getElem?_map] at hx
      obtain ⟨t, h1, rfl⟩ := Option.map_eq_some_iff.mp hx
      obtain ⟨en, h2, h3⟩ := ht.get h1
      have st := step j en h2
      refine hs t en (List.mem_of_getElem? h2) (List.mem_of_getElem? h1) G' s (s _ _ h3) _ _ (fun c G4 hc s4 => ⟨one1 c, _, n, rfl, s4 _ _ e, by unfold scanBound; omega, sUpd (s.trans s4) hD, (if decide (one1 c ∈ ((r.take j).filterMap f).map one1) = true then n else n + 1), ?_, ?_⟩) fun G4 hc s4 => ⟨s.trans s4, n, by omega, ?_⟩
      · split <;> omega
      · rw [upd_same]
        congr 2
        funext k
        rw [st k, hc]
        congr 1
        rw [Bool.eq_iff_iff, decide_eq_true_iff, decide_eq_true_iff]
        constructor
        · rintro rfl
          exact ⟨rfl, rfl⟩
        · rintro ⟨h1, h2⟩
          rw [h2]
          injection h1 with h1
          rw [← h1]
      · rw [s4 _ _ e]
        congr 2
        funext k
        rw [st k, hc]
        have : decide (none = some (k.cps.getD 0 0) ∧ k = one1 (k.cps.getD 0 0)) = false := by
          rw [decide_eq_false_iff_not]
          exact fun z => nomatch z.1
        rw [this, Bool.or_false]
    · have ej : j = r.length := by omega
      subst ej
      rw [List.take_length] at e
      exact Or.inl ⟨W.stops H s, hd H n s e⟩
end
end LX


/-! ### lists of tuples of any make; runs of equal items -/
namespace LX
open PySem L2
section
variable {α : Type} {f : α → List V}
def TsAt (f : α → List V) (H : Hp) : List Addr → List α → Prop
  | [], [] => True
  | t :: ts, e :: r => H t = some (.tup (f e)) ∧ TsAt f H ts r
  | _, _ => False
theorem TsAt.len {H : Hp} : ∀ {ts : List Addr} {r : List α}, TsAt f H ts r → ts.length = r.length
  | [], [], _ => rfl
  | _ :: ts, _ :: r, h => congrArg (· + 1) (TsAt.len (ts := ts) (r := r) h.2)
  | [], _ :: _, h => h.elim
  | _ :: _, [], h => h.elim
theorem TsAt.mono {H H' : Hp} : ∀ {ts : List Addr} {r : List α}, TsAt f H ts r → (∀ b xs, H b = some (.tup xs) → H' b = some (.tup xs)) → TsAt f H' ts r
  | [], [], _, _ => True.intro
  | _ :: ts, _ :: r, h, k => ⟨k _ _ h.1, TsAt.mono (ts := ts) (r := r) h.2 k⟩
  | [], _ :: _, h, _ => h.elim
  | _ :: _, [], h, _ => h.elim
theorem TsAt.get {H : Hp} : ∀ {ts : List Addr} {r : List α} {i : Nat} {t : Addr}, TsAt f H ts r → ts[i]? = some t → ∃ e, r[i]? = some e ∧ H t = some (.tup (f e))
  | [], [], i, t, _, h => by simp at h
  | _ :: ts, e :: r, 0, t, h, q => by
    simp at q
    subst q
    exact ⟨e, rfl, h.1⟩
  | _ :: ts, _ :: r, i + 1, t, h, q => by
    simp at q
    obtain ⟨e, h1, h2⟩ := TsAt.get (ts := ts) (r := r) h.2 q
    exact ⟨e, by simpa using h1, h2⟩
  | [], _ :: _, _, _, h, _ => h.elim
  | _ :: _, [], _, _, h, _ => h.elim
theorem TsAt.snoc {H : Hp} {t : Addr} {e : α} (ht : H t = some (.tup (f e))) : ∀ {ts : List Addr} {r : List α}, TsAt f H ts r → TsAt f H (ts ++ [t]) (r ++ [e])
  | [], [], _ => ⟨ht, True.intro⟩
  | _ :: ts, _ :: r, h => ⟨h.1, TsAt.snoc ht (ts := ts) (r := r) h.2⟩
  | [], _ :: _, h => h.elim
  | _ :: _, [], h => h.elim
theorem TsAt.app {H : Hp} : ∀ {ts us : List Addr} {r q : List α}, TsAt f H ts r → TsAt f H us q → TsAt f H (ts ++ us) (r ++ q)
  | [], _, [], _, _, h => h
  | _ :: ts, us, _ :: r, q, h, k => ⟨h.1, TsAt.app (ts := ts) (r := r) h.2 k⟩
  | [], _, _ :: _, _, h, _ => h.elim
  | _ :: _, _, [], _, h, _ => h.elim
theorem TsAt.set {H : Hp} {t : Addr} {e : α} (ht : H t = some (.tup (f e))) : ∀ {ts : List Addr} {r : List α} (j : Nat), TsAt f H ts r → TsAt f H (ts.set j t) (r.set j e)
  | [], [], _, _ => True.intro
  | _ :: ts, _ :: r, 0, h => ⟨ht, h.2⟩
  | _ :: ts, _ :: r, j + 1, h => ⟨h.1, TsAt.set ht (ts := ts) (r := r) j h.2⟩
  | [], _ :: _, _, h => h.elim
  | _ :: _, [], _, h => h.elim
theorem TsAt.last {H : Hp} {ts : List Addr} {r : List α} (h : TsAt f H ts r) {e : α} (he : r.getLast? = some e) : ∃ t, ts[ts.length - 1]? = some t ∧ H t = some (.tup (f e)) := by
  have hl := h.len
  rw [List.getLast?_eq_getElem?] at he
  have h1 : r.length - 1 < r.length := (List.getElem?_eq_some_iff.mp he).1
  have h2 : ts.length - 1 < ts.length := by omega
  have h3 := List.getElem?_eq_getElem h2
  obtain ⟨e', h4, h5⟩ := h.get h3
  rw [show ts.length - 1 = r.length - 1 by omega, he] at h4
  cases h4
  exact ⟨_, h3, h5⟩
theorem TsAt.off {H : Hp} {l : Addr} {xs : List V} {o : HO} {ts : List Addr} {r : List α} (h : TsAt f H ts r) (hl : H l = some (.lst xs)) : TsAt f (upd H l o) ts r := h.mono fun b ys e => by
  rw [upd_ne fun z => by rw [z, hl] at e; cases e]
  exact e
theorem TsAt.dp {K : PySem.W.Frag} {H : Hp} {d : α → List PyData} (hd : ∀ e, DpAll K H (f e) (d e)) : ∀ {ts : List Addr} {r : List α}, TsAt f H ts r → DpAll K H (ts.map V.ref) (r.map fun e => PyData.tuple (d e))
  | [], [], _ => .nil
  | _ :: ts, e :: r, h => .cons (.tup (SqT.of h.1) (hd e)) (TsAt.dp hd (ts := ts) (r := r) h.2)
  | [], _ :: _, h => h.elim
  | _ :: _, [], h => h.elim
end
section
variable {α : Type} [DecidableEq α]
def rsn (acc : List (α × Nat)) (x : α) : List (α × Nat) :=
  match acc.getLast? with
  | some (y, k) => if y = x then acc.set (acc.length - 1) (x, k + 1) else acc ++ [(x, 1)]
  | none => acc ++ [(x, 1)]
def runs (cs : List α) : List (α × Nat) := cs.foldl rsn []
theorem runs_snoc (cs : List α) (x : α) : runs (cs ++ [x]) = rsn (runs cs) x := by
  unfold runs
  rw [List.foldl_append]
  rfl
theorem rsn_len (acc : List (α × Nat)) (x : α) : (rsn acc x).length ≤ acc.length + 1 := by
  unfold rsn
  split
  · split
    · rw [List.length_set]
      omega
    · rw [List.length_append]
      simp
  · rw [List.length_append]
    simp
theorem runs_len (cs : List α) : (runs cs).length ≤ cs.length := by
  have go : ∀ (cs : List α) (acc : List (α × Nat)), (cs.foldl rsn acc).length ≤ acc.length + cs.length := by
    intro cs
    induction cs with
    | nil => exact fun acc => Nat.le_refl _
    | cons x cs ih =>
      intro acc
      have h1 := ih (rsn acc x)
      have h2 := rsn_len acc x
      show (cs.foldl rsn (rsn acc x)).length ≤ acc.length + (cs.length + 1)
      omega
  have := go cs []
  simpa [runs] using this
theorem rsn_grow {acc : List (α × Nat)} {x : α} {k : Nat} (h : acc.getLast? = some (x, k)) : rsn acc x = acc.set (acc.length - 1) (x, k + 1) := by
  unfold rsn
  rw [h]
  exact if_pos rfl
theorem rsn_new {acc : List (α × Nat)} {x y : α} {k : Nat} (h : acc.getLast? = some (y, k)) (n : y ≠ x) : rsn acc x = acc ++ [(x, 1)] := by
  unfold rsn
  rw [h]
  exact if_neg n
theorem rsn_nil (x : α) : rsn [] x = [(x, 1)] := rfl
theorem last_ne {β : Type} {acc : List β} (h : acc ≠ []) : ∃ e, acc.getLast? = some e := ⟨_, List.getLast?_eq_some_getLast h⟩
end
/-- a run of a color -/
abbrev prC (e : Nat × Nat) : List V := [sg e.1, .int (e.2 : Int)]
abbrev dPC (e : Nat × Nat) : List PyData := [.str ⟨#[e.1]⟩, .int (e.2 : Int)]
/-- each color once, in the order met -/
abbrev firstsOf (cs : List Nat) : List Nat := cs.foldl (fun acc x => if x ∈ acc then acc else acc ++ [x]) []
theorem firsts_snoc (cs : List Nat) (x : Nat) : firstsOf (cs ++ [x]) = if x ∈ firstsOf cs then firstsOf cs else firstsOf cs ++ [x] := by
  unfold firstsOf
  rw [List.foldl_append]
  rfl
/-- a text of codes -/
abbrev txt (cs : List Nat) : Str := ⟨cs.toArray⟩
section
variable {X : Cx}
def rInT (neg : Bool) : R2 := fun x y H Q => ∃ (c : Nat) (z : Str), x = sg c ∧ y = .str z ∧ Q (.bl (if neg = true then !decide (c ∈ z.cps.toList) else decide (c ∈ z.cps.toList))) H
theorem kinT : OpR X (compareOp .In) (rInT false) := by
  intro pins s σ H x y v u Q I rx ry h
  obtain ⟨c, z, rfl, rfl, q⟩ := h
  refine op_in_str pins s σ H _ _ v u Q I rx ry ⟨⟨#[c]⟩, z, rfl, rfl, ?_⟩
  rw [PySem.StrLaws.found_one]
  exact q
theorem knotInT : OpR X (compareOp .NotIn) (rInT true) := by
  intro pins s σ H x y v u Q I rx ry h
  obtain ⟨c, z, rfl, rfl, q⟩ := h
  refine op_notIn_str pins s σ H _ _ v u Q I rx ry ⟨⟨#[c]⟩, z, rfl, rfl, ?_⟩
  rw [PySem.StrLaws.found_one]
  exact q
end
theorem txt_app (cs : List Nat) (c : Nat) : txt cs ++ (⟨#[c]⟩ : Str) = txt (cs ++ [c]) := by
  show (⟨cs.toArray ++ #[c]⟩ : Str) = ⟨(cs ++ [c]).toArray⟩
  congr 1
  simp
theorem txt_len (cs : List Nat) : (txt cs).length = cs.length := List.size_toArray
theorem mem_firsts {cs : List Nat} {x : Nat} : x ∈ firstsOf cs ↔ x ∈ cs := by
  have go : ∀ (cs acc : List Nat), x ∈ cs.foldl (fun acc x => if x ∈ acc then acc else acc ++ [x]) acc ↔ x ∈ acc ∨ x ∈ cs := by
    intro cs
    induction cs with
    | nil => intro acc; simp
    | cons y ys ih =>
      intro acc
      rw [List.foldl_cons, ih, List.mem_cons]
      by_cases c : y ∈ acc
      · rw [if_pos c]
        constructor
        · rintro (h | h)
          · exact Or.inl h
          · exact Or.inr (Or.inr h)
        · rintro (h | rfl | h)
          · exact Or.inl h
          · exact Or.inl c
          · exact Or.inr h
      · rw [if_neg c, List.mem_append, List.mem_singleton, or_assoc]
  have := go cs []
  simpa using this
theorem firsts_len (cs : List Nat) : (firstsOf cs).length ≤ cs.length := by
  have go : ∀ (cs acc : List Nat), (cs.foldl (fun acc x => if x ∈ acc then acc else acc ++ [x]) acc).length ≤ acc.length + cs.length := by
    intro cs
    induction cs with
    | nil => exact fun acc => Nat.le_refl _
    | cons y ys ih =>
      intro acc
      rw [List.foldl_cons, List.length_cons]
      refine Nat.le_trans (ih _) ?_
      by_cases c : y ∈ acc
      · rw [if_pos c]
        omega
      · rw [if_neg c, List.length_append, List.length_singleton]
        omega
  have := go cs []
  simpa using this
theorem txt_cat (a b : List Nat) : txt a ++ txt b = txt (a ++ b) := by
  show (⟨a.toArray ++ b.toArray⟩ : Str) = ⟨(a ++ b).toArray⟩
  congr 1
  simp
theorem fold_ones : ∀ (cs : List Nat) (acc : Array Nat), (cs.map fun c => (⟨#[c]⟩ : Str)).foldl (fun acc p => acc ++ (Str.ofString "").cps ++ p.cps) acc = acc ++ cs.toArray
  | [], acc => by simp
  | c :: cs, acc => by
    rw [List.map_cons, List.foldl_cons, fold_ones cs]
    show acc ++ #[] ++ #[c] ++ cs.toArray = _
    simp
theorem join_ones (cs : List Nat) : Txt.join (Str.ofString "") (cs.map fun c => (⟨#[c]⟩ : Str)) = txt cs := by
  cases cs with
  | nil => rfl
  | cons c cs =>
    show (⟨(cs.map fun c => (⟨#[c]⟩ : Str)).foldl (fun acc p => acc ++ (Str.ofString "").cps ++ p.cps) #[c]⟩ : Str) = _
    rw [fold_ones]
    show (⟨#[c] ++ cs.toArray⟩ : Str) = ⟨(c :: cs).toArray⟩
    congr 1
    simp
theorem len_ones (cs : List Nat) : ((cs.map fun c => (⟨#[c]⟩ : Str)).map (·.length)).sum = cs.length := by
  induction cs with
  | nil => rfl
  | cons c cs ih =>
    rw [List.map_cons, List.map_cons, List.sum_cons, ih, List.length_cons]
    show 1 + cs.length = _
    omega
/-- the last run's item is the last item -/
theorem runs_last (cs : List Nat) (x : Nat) : ∃ k, (runs (cs ++ [x])).getLast? = some (x, k) := by
  rw [runs_snoc]
  unfold rsn
  cases q : (runs cs).getLast? with
  | none =>
    dsimp only
    exact ⟨1, by rw [List.getLast?_append]; rfl⟩
  | some e =>
    obtain ⟨y, k⟩ := e
    dsimp only
    by_cases c : y = x
    · rw [if_pos c]
      have ne : 0 < (runs cs).length := by
        cases h : runs cs with
        | nil => rw [h] at q; cases q
        | cons a l => exact Nat.zero_lt_succ _
      refine ⟨k + 1, ?_⟩
      rw [List.getLast?_eq_getElem?, List.length_set, List.getElem?_set_self (by omega)]
    · rw [if_neg c]
      exact ⟨1, by rw [List.getLast?_append]; rfl⟩
theorem firsts_fm (cs : List Nat) : (List.range cs.length).filterMap (fun k => if decide (cs.getD k 0 ∈ cs.take k) = true then none else some (cs.getD k 0)) = firstsOf cs := by
  have go : ∀ k, k ≤ cs.length → (List.range k).filterMap (fun k => if decide (cs.getD k 0 ∈ cs.take k) = true then none else some (cs.getD k 0)) = firstsOf (cs.take k) := by
    intro k
    induction k with
    | zero => intro _; rfl
    | succ k ih =>
      intro hk
      have hx : cs[k]? = some (cs.getD k 0) := by rw [List.getD_eq_getElem?_getD, List.getElem?_eq_getElem (by omega)]; rfl
      rw [List.range_succ, List.filterMap_append, ih (by omega), take_of hx, firsts_snoc]
      by_cases c : cs.getD k 0 ∈ cs.take k
      · rw [if_pos (mem_firsts.mpr c), List.filterMap_cons_none (by rw [if_pos (decide_eq_true c)])]
        exact List.append_nil _
      · rw [if_neg fun z => c (mem_firsts.mp z), List.filterMap_cons_some (b := cs.getD k 0) (by rw [if_neg (by simpa using c)])]
        rfl
  have := go cs.length (Nat.le_refl _)
  rw [List.take_length] at this
  exact this
theorem fo_head (r : Row) (c : Nat) : ((r.map (·.2)).filter fun d => d != c).head? = fo r c := by
  unfold fo
  rw [List.head?_filter, List.find?_map]
  rfl
end LX
/-! ### letters counted and found in a list; for over a text -/
namespace LX
open PySem PySem.Spec PyProof.Rows L2
def eqS (k : Str) (v : Value) : Bool := match v with
  | .str n _ => n == k
  | _ => false
theorem eqS_at {A : Around} {s : Shared} {k : Str} {t : Tok} : ∀ {us : List Value} {ys : List Str}, StrsAre us ys → ∀ y ∈ us, SeqAt.EqAt A s y (.str k t) (eqS k y)
  | _, _, .nil => fun y hy => by cases hy
  | _, _, .cons n t' h => fun y hy => by
    rcases List.mem_cons.mp hy with e | e
    · rw [e]
      exact SeqAt.EqAt.str_str n t' k t
    · exact eqS_at h y e
theorem eqS_count {k : Str} : ∀ {us : List Value} {ys : List Str}, StrsAre us ys → us.countP (eqS k) = ys.countP (· == k)
  | _, _, .nil => rfl
  | _, _, .cons n t h => by
    have ih := eqS_count (k := k) h
    rw [List.countP_cons, List.countP_cons, ih] <;> rfl
theorem one_beq (a b : Nat) : ((⟨#[a]⟩ : Str) == ⟨#[b]⟩) = (a == b) := by
  rw [Bool.eq_iff_iff, beq_iff_eq, beq_iff_eq]
  exact ⟨fun h => by injection h with h; simpa using h, fun h => by rw [h]⟩
theorem ones_count (c : Nat) : ∀ cs : List Nat, (cs.map fun c => (⟨#[c]⟩ : Str)).countP (· == ⟨#[c]⟩) = cs.count c
  | [] => rfl
  | x :: cs => by
    rw [List.map_cons, List.countP_cons, ones_count c cs, List.count_cons, one_beq]
theorem ones_V (cs : List Nat) : cs.map sg = (cs.map fun c => (⟨#[c]⟩ : Str)).map V.str := by
  rw [List.map_map]
  rfl
theorem eqV_sg (a b : Nat) : eqV (sg a) (sg b) = (a == b) := one_beq a b
theorem flat_sg (cs : List Nat) : (cs.map sg).all flatV = true := by
  rw [List.all_eq_true]
  intro x hx
  obtain ⟨c, _, rfl⟩ := List.mem_map.mp hx
  rfl
theorem any_sg (c : Nat) (cs : List Nat) : inV (sg c) (cs.map sg) = decide (c ∈ cs) := by
  unfold inV
  rw [Bool.eq_iff_iff, List.any_eq_true, decide_eq_true_iff]
  constructor
  · rintro ⟨x, hx, e⟩
    obtain ⟨d, hd, rfl⟩ := List.mem_map.mp hx
    rw [eqV_sg] at e
    rw [← eq_of_beq e]
    exact hd
  · intro h
    exact ⟨sg c, List.mem_map.mpr ⟨c, h, rfl⟩, by rw [eqV_sg]; exact beq_self_eq_true c⟩
section
variable {X : Cx}
def rCntS (K : PySem.W.Frag) : V → List V → Hp → VK → Prop := fun x xs H Q => ∃ (p : Addr) (cs : List Nat) (c : Nat), x = .ref p ∧ xs = [sg c] ∧ SqL K H p (cs.map sg) ∧ Q (.int (cs.count c : Nat)) H
theorem mt_lcountS {K : PySem.W.Frag} (hK : X.K = K := by rfl) : MtR X "list.count" (rCntS K) := by
  subst hK
  intro pins s σ H x xs v us Q I rx rxs h
  obtain ⟨p, cs, c, rfl, rfl, hs, q⟩ := h
  cases rx
  obtain ⟨u, rfl, ru⟩ := rxs.one
  obtain ⟨t, rfl⟩ := ru
  obtain ⟨its, rv, ⟨⟨cls, dd, data, sl⟩, n, ho, hc, hdn, hd⟩, hlen⟩ := I.list hs
  simp only at hc hd
  subst hc hd
  rw [ones_V] at rv
  have hi := strs_of_vals rv
  refine call_meets PySem.F.slot_list_count ⟨_, ho, rfl⟩ PySem.F.entry_list_count (PySem.F.args_list_count_2 _ _)
    (SeqAt.list_countAt p its.toArray n dd sl (.str ⟨#[c]⟩ t) (eqS ⟨#[c]⟩)) ⟨ho, fun y hy => eqS_at hi y (by simpa using hy), ?_⟩
  have ec : its.toArray.toList.countP (eqS ⟨#[c]⟩) = cs.count c := (eqS_count hi).trans (ones_count c cs)
  refine ⟨.int (cs.count c : Nat), H, I.tok _, ⟨s.toks, ?_⟩, q⟩
  show Value.int ((its.toArray.toList.countP (eqS ⟨#[c]⟩) : Nat) : Int) s.toks = Value.int ((cs.count c : Nat) : Int) s.toks
  rw [ec]
def rIdxS (K : PySem.W.Frag) : V → List V → Hp → VK → Prop := fun x xs H Q => ∃ (p : Addr) (cs : List Nat) (c j : Nat), x = .ref p ∧ xs = [sg c] ∧ SqL K H p (cs.map sg) ∧ cs.findIdx? (· == c) = some j ∧ Q (.int (j : Nat)) H
theorem mt_indexS {K : PySem.W.Frag} (hK : X.K = K := by rfl) : MtR X "list.index" (rIdxS K) := by
  subst hK
  intro pins s σ H x xs v us Q I rx rxs h
  obtain ⟨p, cs, c, j, rfl, rfl, hs, hj, q⟩ := h
  obtain ⟨h1, h2, h3⟩ := List.findIdx?_eq_some_iff_getElem.mp hj
  refine mt_index pins s σ H _ _ v us Q I rx rxs ⟨p, cs.map sg, sg c, j, sg cs[j], rfl, rfl, hs, rfl, flat_sg cs, by rw [List.getElem?_map, List.getElem?_eq_getElem h1]; rfl, by rw [eqV_sg]; exact h2, fun m z' hm hz => ?_, q⟩
  rw [List.getElem?_map, List.getElem?_eq_getElem (by omega)] at hz
  cases hz
  rw [eqV_sg]
  simpa using h3 m hm
end
section
variable {K : PySem.W.Frag} {H : Hp} {Q : VK}
theorem rd_inC {p : Addr} {cs : List Nat} {c : Nat} (h : H p = some (.lst (cs.map sg))) (q : Q (.bl (decide (c ∈ cs))) H) : rIn K false (sg c) (.ref p) H Q :=
  ⟨p, _, rfl, Or.inl (SqL.of h), rfl, flat_sg cs, by
    rw [any_sg, if_neg Bool.false_ne_true]
    exact q⟩
/-- for c in a text -/
theorem for_txt {z : Str} {g : TG} {tb : TS} {D : Ends} {σ : L2.St} {H : Hp} (Pv : Nat → L2.St → Hp → Prop) (h0 : Pv 0 σ H)
    (hs : ∀ i c σ H, z.cps[i]? = some c → Pv i σ H → g (sg c) σ H fun σ2 H2 => tb { D with nx := Pv (i + 1), ct := Pv (i + 1), bk := D.nx } σ2 H2) (hd : ∀ σ H, Pv z.cps.size σ H → D.nx σ H) :
    ∃ W : Nat → Nat → L2.St → Hp → Prop, (∃ m, W 0 m σ H) ∧ ∀ i m σ H, W i m σ H →
      ((Its z).stop i H ∧ D.nx σ H) ∨ ((Its z).go i H ∧ ∃ N : L2.St → Hp → Prop, (∀ σ' H', N σ' H' → ∃ m', m' < m ∧ W (i + 1) m' σ' H') ∧ ∀ x H', (Its z).yld i H x H' → g x σ H' fun σ2 H2 => tb { D with nx := N, ct := N, bk := D.nx } σ2 H2) :=
  for_it walk_str Pv h0 (fun _ _ _ _ _ => True.intro) (fun i x σ H H' _ p y => by
    obtain ⟨rfl, c, hc, rfl⟩ := y
    exact hs i c σ H' hc p) hd
end
end LX

namespace LX
open PySem L2
def oI : Option Nat → V
  | none => .non
  | some j => .int (j : Nat)
theorem fi_some {cs : List Nat} {c i : Nat} (h : cs[i]? = some c) (n : ∀ m, m < i → cs[m]? ≠ some c) : cs.findIdx? (· == c) = some i := by
  obtain ⟨h1, h2⟩ := List.getElem?_eq_some_iff.mp h
  refine List.findIdx?_eq_some_iff_getElem.mpr ⟨h1, by rw [h2]; exact beq_self_eq_true c, fun m hm => ?_⟩
  have := n m hm
  rw [List.getElem?_eq_getElem (by omega)] at this
  simpa using this
theorem fi_none {cs : List Nat} {c : Nat} (n : ∀ m, m < cs.length → cs[m]? ≠ some c) : cs.findIdx? (· == c) = none := by
  rw [List.findIdx?_eq_none_iff]
  intro x hx
  obtain ⟨m, hm, rfl⟩ := List.mem_iff_getElem.mp hx
  have := n m hm
  rw [List.getElem?_eq_getElem hm] at this
  simpa using this
theorem fi_mem {cs : List Nat} {c : Nat} (h : c ∈ cs) : ∃ j, cs.findIdx? (· == c) = some j ∧ j < cs.length := by
  cases e : cs.findIdx? (· == c) with
  | none =>
    rw [List.findIdx?_eq_none_iff] at e
    have := e c h
    simp at this
  | some j => exact ⟨j, rfl, (List.findIdx?_eq_some_iff_getElem.mp e).1⟩
theorem fi_not {cs : List Nat} {c : Nat} (h : c ∉ cs) : cs.findIdx? (· == c) = none := by
  rw [List.findIdx?_eq_none_iff]
  intro x hx
  simp
  intro e
  exact h (e ▸ hx)
/-- the letters below x -/
def below (cs : List Nat) (x : Nat) : Nat := cs.countP (fun c => decide (c < x))
theorem below_succ (cs : List Nat) (x : Nat) : below cs (x + 1) = below cs x + cs.count x := by
  unfold below
  induction cs with
  | nil => rfl
  | cons c cs ih =>
    rw [List.countP_cons, List.countP_cons, List.count_cons, ih]
    by_cases h : c = x
    · subst h
      simp
      omega
    · have e : (c == x) = false := by simpa using h
      rw [e]
      by_cases h2 : c < x
      · rw [if_pos (by simp; omega), if_pos (by simpa using h2)]
        simp
        omega
      · rw [if_neg (by simp; omega), if_neg (by simpa using h2)]
        simp
theorem below_all {cs : List Nat} {x : Nat} (h : ∀ c ∈ cs, c < x) : below cs x = cs.length := by
  unfold below
  rw [List.countP_eq_length]
  intro c hc
  simpa using h c hc
theorem below_none {cs : List Nat} {x : Nat} (h : ∀ c ∈ cs, x ≤ c) : below cs x = 0 := by
  unfold below
  rw [List.countP_eq_zero]
  intro c hc
  have := h c hc
  simp
  omega
theorem rd_forEn {K : PySem.W.Frag} {σ : L2.St} {H : Hp} {ta : TA} {g : TG} {tb : TS} {D : Ends} (M : Addr → List V → Hp → Prop) (h1 : ∀ R : List V → Hp → Prop, (∀ b xs H1, M b xs H1 → R [.ref b] H1) → ta σ H R)
    (h2 : ∀ b xs H1, M b xs H1 → SqL K H1 b xs ∧ ∃ W : Nat → Nat → L2.St → Hp → Prop, (∃ m, W 0 m σ H1) ∧ ∀ i m σ H, W i m σ H →
      ((Ite K b).stop i H ∧ D.nx σ H) ∨ ((Ite K b).go i H ∧ ∃ N : L2.St → Hp → Prop, (∀ σ' H', N σ' H' → ∃ m', m' < m ∧ W (i + 1) m' σ' H') ∧ ∀ x H', (Ite K b).yld i H x H' → g x σ H' fun σ2 H2 => tb { D with nx := N, ct := N, bk := D.nx } σ2 H2)) :
    tFor (iEnum K ta) g tb D σ H := h1 _ fun b xs H1 m => ⟨b, xs, rfl, (h2 b xs H1 m).1, (h2 b xs H1 m).2⟩
theorem rd_teM2 {te : TE} {σ : L2.St} {H : Hp} {Q : VK} (M : VK) (h1 : ∀ R : VK, (∀ x H1, M x H1 → R x H1) → te σ H R) (h2 : ∀ x H1, M x H1 → Q x H1) : te σ H Q := h1 _ h2
end LX
/-! ### data and its shape; comprehensions that make tuples; a dict of letters -/
namespace LX
open PySem L2
theorem u1_of {n m : Nat} (h : n + 64 < m) : n + 1 < m := by omega
def qDictP (K : PySem.W.Frag) : List V → Hp → VK → Prop := fun xs H Q => ∃ (a : Addr) (ps : List Addr) (kvs : List (Key × V)), xs = [.ref a] ∧ SqL K H a (ps.map V.ref) ∧ Paired (fun p kv => SqT K H p [kV kv.1, kv.2]) ps kvs ∧
    ∀ p, H p = none → Q (.ref p) (upd H p (.dK (mergeK [] kvs)))
theorem kdictP {X : Cx} {K : PySem.W.Frag} (hc : X.calm = true) (h : X.K = K := by rfl) : CallR X (.type "dict") (qDictP K) := by
  subst h
  exact call_dictP hc
structure Sd (n : Nat) (d : PyData) : Prop where
  lay : d.canLay0 = true
  dep : d.depth ≤ n
theorem sd_all {n : Nat} : ∀ {xs : List PyData}, (∀ x ∈ xs, Sd n x) → PyData.canLayAll0 xs = true ∧ PyData.depthAll xs ≤ n
  | [], _ => by
    simp only [PyData.canLayAll0, PyData.depthAll]
    exact ⟨trivial, Nat.zero_le _⟩
  | x :: xs, h => by
    obtain ⟨a1, a2⟩ := h x List.mem_cons_self
    obtain ⟨b1, b2⟩ := sd_all fun y hy => h y (List.mem_cons_of_mem _ hy)
    simp only [PyData.canLayAll0, PyData.depthAll, a1, b1, Bool.and_self]
    exact ⟨trivial, by omega⟩
theorem Sd.list {n : Nat} {xs : List PyData} (h : ∀ x ∈ xs, Sd n x) : Sd (n + 1) (.list xs) := by
  obtain ⟨h1, h2⟩ := sd_all h
  exact ⟨by simp only [PyData.canLay0]; exact h1, by simp only [PyData.depth]; omega⟩
theorem Sd.tuple {n : Nat} {xs : List PyData} (h : ∀ x ∈ xs, Sd n x) : Sd (n + 1) (.tuple xs) := by
  obtain ⟨h1, h2⟩ := sd_all h
  exact ⟨by simp only [PyData.canLay0]; exact h1, by simp only [PyData.depth]; omega⟩
theorem Sd.mono {n m : Nat} {d : PyData} (h : Sd n d) (k : n ≤ m) : Sd m d := ⟨h.lay, Nat.le_trans h.dep k⟩
theorem Sd.none {n : Nat} : Sd n .none := ⟨by simp only [PyData.canLay0], by simp only [PyData.depth]; omega⟩
theorem Sd.int {n : Nat} {i : Int} : Sd n (.int i) := ⟨by simp only [PyData.canLay0], by simp only [PyData.depth]; omega⟩
theorem Sd.str {n : Nat} {cs : List Nat} (h : ∀ c ∈ cs, c ≤ 122) : Sd n (.str (txt cs)) := by
  refine ⟨?_, by simp only [PyData.depth]; omega⟩
  simp only [PyData.canLay0]
  show (cs.toArray).all (· < 0x110000) = true
  rw [List.all_toArray, List.all_eq_true]
  intro c hc
  have := h c hc
  simp
  omega
theorem Sd.shaped {n : Nat} {d : PyData} (h : Sd n d) (k : n ≤ 64) : SeqAt.shaped d = true := Bool.and_eq_true_iff.mpr ⟨h.lay, decide_eq_true (Nat.le_trans h.dep k)⟩
section
variable {K : PySem.W.Frag} {a D : Addr} {g : TG} {te : TE} {vs : List Nat} {σ : L2.St} {H1 : Hp} {Qd : Hp → Prop} {α : Type} {J : It} {n : Nat} {Y : Nat → Hp → V → Hp → Prop}
/-- a comprehension whose items are new tuples -/
theorem lc_mk {m : α → List V} {zs : List α} (w : Walk J n (fun H => Same H1 H) Y) (hn : zs.length = n) (hz : n ≤ 1000) (hD : H1 D = none)
    (hs : ∀ i e x H H', zs[i]? = some e → Same H1 H → Y i H x H' → ∀ (R : V → Hp → Prop), (∀ t H4, Same H H4 → H4 t = some (.tup (m e)) → R (.ref t) H4) → g x (wipe σ vs) H' fun σ2 H2 => wipe σ2 vs = wipe σ vs ∧ te σ2 H2 R)
    (hd : ∀ H' us, Same H1 H' → H' D = some (.lst (us.map V.ref)) → TsAt m H' us zs → Qd H') :
    ∃ W : Nat → Nat → Hp → Prop, (∃ m, W 0 m (upd H1 D (.lst []))) ∧ ∀ i m H, W i m H →
      (J.stop i H ∧ Qd H) ∨ (J.go i H ∧ ∃ Nx : Hp → Prop, (∀ H', Nx H' → ∃ m', m' < m ∧ W (i + 1) m' H') ∧ ∀ x H', J.yld i H x H' → g x (wipe σ vs) H' fun σ2 H2 => wipe σ2 vs = wipe σ vs ∧ tYes σ2 H2 fun b H3 =>
        if b = true then te σ2 H3 fun y H4 => ∃ acc, H4 D = some (.lst acc) ∧ acc.length < sizeLine ∧ Nx (upd H4 D (.lst (acc ++ [y]))) else Nx H3) := by
  refine lc_it (tt := tYes) w (fun i H => Same H1 H ∧ ∃ us : List Addr, H D = some (.lst (us.map V.ref)) ∧ TsAt m H us (zs.take i)) ⟨sNew hD, [], upd_same, True.intro⟩ (fun _ _ _ h => h.1) ?_ ?_
  · rintro i x H H' hi ⟨s, us, e, t⟩ y
    have hx : zs[i]? = some (zs[i]'(by omega)) := List.getElem?_eq_getElem _
    have ul := t.len
    rw [List.length_take] at ul
    refine hs i _ x H H' hx s y _ fun t4 H4 s4 ht4 => ⟨_, s4 _ _ e, small1000 (by rw [List.length_map]; omega), sUpd (s.trans s4) hD, us ++ [t4], by rw [upd_same, List.map_append]; rfl, ?_⟩
    have tD : t4 ≠ D := fun z => by
      rw [z, s4 _ _ e] at ht4
      cases ht4
    rw [take_of hx]
    exact ((t.mono (sTups s4)).off (s4 _ _ e)).snoc (by rw [upd_ne tD]; exact ht4)
  · rintro H ⟨s, us, e, t⟩
    rw [← hn, List.take_length] at t
    exact hd H us s e t
/-- a comprehension whose items are known values -/
theorem lc_mv {v : α → V} {zs : List α} (w : Walk J n (fun H => Same H1 H) Y) (hn : zs.length = n) (hz : n ≤ 1000) (hD : H1 D = none)
    (hs : ∀ i e x H H', zs[i]? = some e → Same H1 H → Y i H x H' → ∀ (R : V → Hp → Prop), (∀ H4, Same H H4 → R (v e) H4) → g x (wipe σ vs) H' fun σ2 H2 => wipe σ2 vs = wipe σ vs ∧ te σ2 H2 R)
    (hd : ∀ H', Same H1 H' → H' D = some (.lst (zs.map v)) → Qd H') :
    ∃ W : Nat → Nat → Hp → Prop, (∃ m, W 0 m (upd H1 D (.lst []))) ∧ ∀ i m H, W i m H →
      (J.stop i H ∧ Qd H) ∨ (J.go i H ∧ ∃ Nx : Hp → Prop, (∀ H', Nx H' → ∃ m', m' < m ∧ W (i + 1) m' H') ∧ ∀ x H', J.yld i H x H' → g x (wipe σ vs) H' fun σ2 H2 => wipe σ2 vs = wipe σ vs ∧ tYes σ2 H2 fun b H3 =>
        if b = true then te σ2 H3 fun y H4 => ∃ acc, H4 D = some (.lst acc) ∧ acc.length < sizeLine ∧ Nx (upd H4 D (.lst (acc ++ [y]))) else Nx H3) := by
  refine lc_it (tt := tYes) w (fun i H => Same H1 H ∧ H D = some (.lst ((zs.take i).map v))) ⟨sNew hD, upd_same⟩ (fun _ _ _ h => h.1) ?_ ?_
  · rintro i x H H' hi ⟨s, e⟩ y
    have hx : zs[i]? = some (zs[i]'(by omega)) := List.getElem?_eq_getElem _
    refine hs i _ x H H' hx s y _ fun H4 s4 => ⟨_, s4 _ _ e, small1000 (by rw [List.length_map, List.length_take]; omega), sUpd (s.trans s4) hD, ?_⟩
    rw [upd_same, take_of hx, List.map_append]
    rfl
  · rintro H ⟨s, e⟩
    rw [← hn, List.take_length] at e
    exact hd H s e
theorem wk_txt {z : Str} : Walk (Its z) z.cps.size (fun H => Same H1 H) (fun i H v H' => H' = H ∧ ∃ c, z.cps[i]? = some c ∧ v = .str ⟨#[c]⟩) := walk_str.mono (fun _ _ => True.intro) fun _ _ _ _ _ _ y => y
theorem wk_list {xs : List V} (ha : H1 a = some (.lst xs)) : Walk (Itl K a) xs.length (fun H => Same H1 H) (YAt xs) := walk_list.mono (fun _ s => SqL.of (s _ _ ha)) fun _ _ _ _ _ _ y => y
end
/-- a dict from letters to letters -/
def NmAt (H : Hp) (N : Addr) (f : Nat → Nat) : Prop := ∃ kvs : List (Key × V), H N = some (.dK kvs) ∧ ∀ c, 97 ≤ c → c ≤ 122 → valV kvs (.inr ⟨#[c]⟩) = some (sg (f c))
theorem NmAt.same {H H' : Hp} {N : Addr} {f : Nat → Nat} (h : NmAt H N f) (s : Same H H') : NmAt H' N f :=
  let ⟨k, h1, h2⟩ := h
  ⟨k, s _ _ h1, h2⟩
theorem NmAt.get {H : Hp} {N : Addr} {f : Nat → Nat} (h : NmAt H N f) {c : Nat} (c0 : 97 ≤ c) (c1 : c ≤ 122) : DGet H N (sg c) (some (sg (f c))) := by
  obtain ⟨k, h1, h2⟩ := h
  rw [← h2 c c0 c1]
  exact DGet.k (k := .inr ⟨#[c]⟩) h1
theorem rd_nm {td ty : TE} {σ : L2.St} {H : Hp} {Q : VK} (q : td σ H fun x H1 => ty σ H1 fun y H2 => ∃ a v, x = .ref a ∧ DGet H2 a y (some v) ∧ Q v H2) : tDGet td ty σ H Q := q
theorem merge_other {k : Key} : ∀ {l : List (Key × V)} {acc : List (Key × V)}, (∀ e ∈ l, e.1 ≠ k) → valV (mergeK acc l) k = valV acc k
  | [], _, _ => rfl
  | e :: l, acc, h => by
    show valV (mergeK (L2.putK acc e.1 e.2) l) k = _
    rw [merge_other fun e he => h e (List.mem_cons_of_mem _ he), valV_put, if_neg fun z => h e List.mem_cons_self z.symm]
theorem merge_at : ∀ {l : List (Key × V)} {acc : List (Key × V)} {i : Nat} {e : Key × V}, (l.map (·.1)).Nodup → l[i]? = some e → valV (mergeK acc l) e.1 = some e.2
  | [], _, i, e, _, h => by simp at h
  | d :: l, acc, 0, e, nd, h => by
    have e1 : d = e := by simpa using h
    subst e1
    show valV (mergeK (L2.putK acc d.1 d.2) l) d.1 = _
    rw [List.map_cons, List.nodup_cons] at nd
    refine (merge_other (k := d.1) fun x hx z => nd.1 ?_).trans ?_
    · rw [← z]
      exact List.mem_map_of_mem (f := fun x : Key × V => x.1) hx
    · rw [valV_put, if_pos rfl]
  | d :: l, acc, i + 1, e, nd, h => by
    rw [List.map_cons, List.nodup_cons] at nd
    exact merge_at (l := l) nd.2 (by simpa using h)
theorem rd_iS {te : TE} {σ : L2.St} {H : Hp} {R : It → Hp → Prop} (q : te σ H fun v H1 => ∃ x, v = .str x ∧ R (Its x) H1) : iStr te σ H R := q
abbrev abcZ : Str := Str.ofString "abcdefghijklmnopqrstuvwxyz"
abbrev abcN : List Nat := (List.range 26).map (97 + ·)
theorem abcZ_eq : abcZ.cps.toList = abcN := by decide
theorem abcN_at {i c : Nat} (h : abcN[i]? = some c) : c = 97 + i ∧ i < 26 := by
  rw [List.getElem?_map] at h
  obtain ⟨n, h1, h2⟩ := Option.map_eq_some_iff.mp h
  have hi : i < 26 := by
    have := (List.getElem?_eq_some_iff.mp h1).1
    rwa [List.length_range] at this
  rw [List.getElem?_range hi] at h1
  cases h1
  exact ⟨h2.symm, hi⟩
theorem abcZ_at {i c : Nat} (h : abcZ.cps[i]? = some c) : c = 97 + i ∧ i < 26 := by
  refine abcN_at ?_
  rw [← abcZ_eq]
  simpa using h
theorem mem_abcN {c : Nat} : c ∈ abcN ↔ 97 ≤ c ∧ c ≤ 122 := by
  rw [List.mem_map]
  constructor
  · rintro ⟨n, hn, rfl⟩
    rw [List.mem_range] at hn
    omega
  · intro h
    exact ⟨c - 97, by rw [List.mem_range]; omega, by omega⟩
theorem dp_app {K : PySem.W.Frag} {H : Hp} : ∀ {xs ys : List V} {ds es : List PyData}, DpAll K H xs ds → DpAll K H ys es → DpAll K H (xs ++ ys) (ds ++ es)
  | [], _, [], _, _, h => h
  | _ :: _, _, _ :: _, _, .cons h k, h2 => .cons h (dp_app k h2)
  | [], _, _ :: _, _, h, _ => by cases h
  | _ :: _, _, [], _, h, _ => by cases h
def dOI : Option Nat → PyData
  | none => .none
  | some j => .int (j : Nat)
theorem dp_oI {K : PySem.W.Frag} {H : Hp} (o : Option Nat) : Dp K H (oI o) (dOI o) := by
  cases o with
  | none => exact .non
  | some j => exact .int _
theorem Sd.oI {n : Nat} (o : Option Nat) : Sd n (dOI o) := by
  cases o with
  | none => exact Sd.none
  | some j => exact Sd.int
theorem Sd.opt {n : Nat} {o : Option Nat} (h : ∀ c, o = some c → c ≤ 122) : Sd n (dO o) := by
  cases o with
  | none => exact Sd.none
  | some c =>
    exact Sd.str (cs := [c]) fun d hd => by
      rw [List.mem_singleton] at hd
      rw [hd]
      exact h c rfl
abbrev dRuns (rs : List (Nat × Nat)) : PyData := .list (rs.map fun e => .tuple (dPC e))
theorem Sd.runs {rs : List (Nat × Nat)} (h : ∀ e ∈ rs, e.1 ≤ 122) : Sd 2 (dRuns rs) := by
  refine Sd.list fun x hx => ?_
  obtain ⟨e, he, rfl⟩ := List.mem_map.mp hx
  refine Sd.tuple fun y hy => ?_
  rcases List.mem_cons.mp hy with c | c
  · rw [c]
    exact Sd.str (cs := [e.1]) fun d hd => by
      rw [List.mem_singleton] at hd
      rw [hd]
      exact h e he
  · rw [List.mem_singleton.mp c]
    exact Sd.int
theorem runs_fst (cs : List Nat) : ∀ e ∈ runs cs, e.1 ∈ cs := by
  have go : ∀ k, k ≤ cs.length → ∀ e ∈ runs (cs.take k), e.1 ∈ cs := by
    intro k
    induction k with
    | zero => intro _ e he; cases he
    | succ k ih =>
      intro hk e he
      have hx : cs[k]? = some cs[k] := List.getElem?_eq_getElem (by omega)
      rw [take_of hx, runs_snoc] at he
      have mem : cs[k] ∈ cs := List.getElem_mem _
      have ih := ih (by omega)
      unfold rsn at he
      cases q : (LX.runs (cs.take k)).getLast? with
      | none =>
        rw [q] at he
        rcases List.mem_append.mp he with h | h
        · exact ih e h
        · rw [List.mem_singleton.mp h]
          exact mem
      | some y =>
        obtain ⟨y, m⟩ := y
        rw [q] at he
        dsimp only at he
        by_cases c : y = cs[k]
        · rw [if_pos c] at he
          rcases List.mem_or_eq_of_mem_set he with h | h
          · exact ih e h
          · rw [h]
            exact mem
        · rw [if_neg c] at he
          rcases List.mem_append.mp he with h | h
          · exact ih e h
          · rw [List.mem_singleton.mp h]
            exact mem
  have := go cs.length (Nat.le_refl _)
  rw [List.take_length] at this
  exact this
/-- all that is asked of a lineup, by its colors -/
abbrev dRes (cs : List Nat) : PyData := .list ([.str (txt [cs.headD 0]), dO ((cs.filter fun d => d != cs.headD 0).head?), dRuns (runs cs), .str (txt (firstsOf cs))] ++ abcN.map fun c => .tuple [.int (cs.count c : Nat), dOI (cs.findIdx? (· == c))])
theorem sd_res {cs : List Nat} (h : ∀ c ∈ cs, c ≤ 122) (ne : cs ≠ []) : Sd 3 (dRes cs) := by
  have h0 : cs.headD 0 ≤ 122 := by
    cases cs with
    | nil => exact absurd rfl ne
    | cons c cs => exact h c List.mem_cons_self
  refine Sd.list fun x hx => ?_
  rcases List.mem_append.mp hx with hx | hx
  · rcases List.mem_cons.mp hx with rfl | hx
    · exact Sd.str fun d hd => by
        rw [List.mem_singleton] at hd
        rw [hd]
        exact h0
    rcases List.mem_cons.mp hx with rfl | hx
    · exact Sd.opt fun c e => h c (List.mem_filter.mp (List.mem_of_head? e)).1
    rcases List.mem_cons.mp hx with rfl | hx
    · exact Sd.runs fun e he => h _ (runs_fst cs e he)
    rw [List.mem_singleton.mp hx]
    exact Sd.str fun d hd => h d (mem_firsts.mp hd)
  · obtain ⟨c, _, rfl⟩ := List.mem_map.mp hx
    refine (Sd.tuple (n := 0) fun y hy => ?_).mono (by decide)
    rcases List.mem_cons.mp hy with c | c
    · rw [c]
      exact Sd.int
    · rw [List.mem_singleton.mp c]
      exact Sd.oI _
theorem paired_at {α β : Type} {R : α → β → Prop} : ∀ {xs : List α} {ys : List β}, xs.length = ys.length → (∀ (j : Nat) (x : α) (y : β), xs[j]? = some x → ys[j]? = some y → R x y) → Paired R xs ys
  | [], [], _, _ => .nil
  | x :: xs, y :: ys, h, k => .cons (k 0 x y rfl rfl) (paired_at (by simpa using h) fun j a b ha hb => k (j + 1) a b (by simpa using ha) (by simpa using hb))
  | [], _ :: _, h, _ => by simp at h
  | _ :: _, [], h, _ => by simp at h
theorem merge_some (k : Key) : ∀ (l acc : List (Key × V)), (valV (mergeK acc l) k).isSome = ((valV acc k).isSome || l.any fun e => decide (e.1 = k))
  | [], acc => by simp [mergeK]
  | e :: l, acc => by
    show (valV (mergeK (L2.putK acc e.1 e.2) l) k).isSome = _
    rw [merge_some k l, valV_put, List.any_cons]
    by_cases c : k = e.1
    · rw [if_pos c, decide_eq_true c.symm]
      simp
    · rw [if_neg c, decide_eq_false fun z => c z.symm]
      simp
theorem rd_din {ty td : TE} {σ : L2.St} {H : Hp} {Q : VK} (q : ty σ H fun y H1 => td σ H1 fun x H2 => ∃ a o, x = .ref a ∧ DGet H2 a y o ∧ Q (.bl o.isSome) H2) : tDIn ty td σ H Q := q
end LX

namespace LX
open PySem L2
section
variable {K : PySem.W.Frag} {a D : Addr} {g : TG} {tt : TT} {te : TE} {vs : List Nat} {σ : L2.St} {H1 : Hp} {Qd : Hp → Prop} {J : It} {n : Nat} {Y : Nat → Hp → V → Hp → Prop}
/-- a comprehension with a test, its items known by their numbers -/
theorem lc_f (w : Walk J n (fun H => Same H1 H) Y) (f : Nat → Option V) (hD : H1 D = none) (hz : n ≤ 1000)
    (hs : ∀ i x H H', i < n → Same H1 H → Y i H x H' → ∀ (T : V → Hp → Prop) (F : Hp → Prop), (∀ y H4, f i = some y → Same H H4 → T y H4) → (∀ H4, f i = none → Same H H4 → F H4) →
      g x (wipe σ vs) H' fun σ2 H2 => wipe σ2 vs = wipe σ vs ∧ tt σ2 H2 fun b H3 => if b = true then te σ2 H3 T else F H3)
    (hd : ∀ H', Same H1 H' → H' D = some (.lst ((List.range n).filterMap f)) → Qd H') :
    ∃ W : Nat → Nat → Hp → Prop, (∃ m, W 0 m (upd H1 D (.lst []))) ∧ ∀ i m H, W i m H →
      (J.stop i H ∧ Qd H) ∨ (J.go i H ∧ ∃ Nx : Hp → Prop, (∀ H', Nx H' → ∃ m', m' < m ∧ W (i + 1) m' H') ∧ ∀ x H', J.yld i H x H' → g x (wipe σ vs) H' fun σ2 H2 => wipe σ2 vs = wipe σ vs ∧ tt σ2 H2 fun b H3 =>
        if b = true then te σ2 H3 fun y H4 => ∃ acc, H4 D = some (.lst acc) ∧ acc.length < sizeLine ∧ Nx (upd H4 D (.lst (acc ++ [y]))) else Nx H3) := by
  refine lc_it w (fun i H => Same H1 H ∧ H D = some (.lst ((List.range i).filterMap f))) ⟨sNew hD, upd_same⟩ (fun _ _ _ h => h.1) ?_ ?_
  · rintro i x H H' hi ⟨s, e⟩ y
    have ln : ((List.range i).filterMap f).length ≤ i := by
      have := List.length_filterMap_le f (List.range i)
      rw [List.length_range] at this
      exact this
    refine hs i x H H' hi s y _ _ (fun v H4 hv s4 => ⟨_, s4 _ _ e, small1000 (by omega), sUpd (s.trans s4) hD, ?_⟩) fun H4 hv s4 => ⟨s.trans s4, ?_⟩
    · rw [upd_same, List.range_succ, List.filterMap_append, List.filterMap_cons_some hv]
      rfl
    · rw [s4 _ _ e, List.range_succ, List.filterMap_append, List.filterMap_cons_none hv]
      show _ = some (HO.lst (_ ++ []))
      rw [List.append_nil]
  · rintro H ⟨s, e⟩
    exact hd H s e
theorem wk_enum {xs : List V} (ha : H1 a = some (.lst xs)) : Walk (Ite K a) xs.length (fun H => Same H1 H) (YPair (fun i => some (.int (i : Nat))) (fun i => xs[i]?)) := walk_enum.mono (fun _ s => SqL.of (s _ _ ha)) fun _ _ _ _ _ _ y => y
theorem wk_range {lo : Int} {n : Nat} : Walk (Itr lo n) n (fun H => Same H1 H) (YFn fun i => .int (lo + i)) := walk_range.mono (fun _ _ => True.intro) fun _ _ _ _ _ _ y => y
theorem rd_iEn {ta : TA} {H : Hp} {R : It → Hp → Prop} (q : ta σ H fun vs H1 => ∃ a xs, vs = [.ref a] ∧ SqL K H1 a xs ∧ R (Ite K a) H1) : iEnum K ta σ H R := q
end
theorem rd_inTx {H : Hp} {Q : VK} {c : Nat} {cs : List Nat} (q : Q (.bl (decide (c ∈ cs))) H) : rInT false (sg c) (.str (txt cs)) H Q :=
  ⟨c, _, rfl, rfl, q⟩
theorem rd_notInTx {H : Hp} {Q : VK} {c : Nat} {cs : List Nat} (q : Q (.bl (!decide (c ∈ cs))) H) : rInT true (sg c) (.str (txt cs)) H Q :=
  ⟨c, _, rfl, rfl, q⟩
theorem len_txt (cs : List Nat) : (txt cs).length = cs.length := rfl
end LX
namespace LX
open PySem L2
theorem rd_forR2 {σ : L2.St} {H : Hp} {ta : TA} {g : TG} {tb : TS} {D : Ends} (lo hi : Int) (b1 : -(2 ^ 62) ≤ lo) (b2 : lo < 2 ^ 62) (b3 : -(2 ^ 62) ≤ hi) (b4 : hi < 2 ^ 62) (M : Hp → Prop) (h1 : ∀ R : List V → Hp → Prop, (∀ H1, M H1 → R [.int lo, .int hi] H1) → ta σ H R)
    (h2 : ∀ H1, M H1 → ∃ W : Nat → Nat → L2.St → Hp → Prop, (∃ m, W 0 m σ H1) ∧ ∀ i m σ H, W i m σ H →
      ((Itr lo (hi - lo).toNat).stop i H ∧ D.nx σ H) ∨ ((Itr lo (hi - lo).toNat).go i H ∧ ∃ N : L2.St → Hp → Prop, (∀ σ' H', N σ' H' → ∃ m', m' < m ∧ W (i + 1) m' σ' H') ∧ ∀ x H', (Itr lo (hi - lo).toNat).yld i H x H' → g x σ H' fun σ2 H2 => tb { D with nx := N, ct := N, bk := D.nx } σ2 H2)) :
    tFor (iRng2 ta) g tb D σ H := h1 _ fun H1 m => ⟨lo, hi, rfl, ⟨b1, b2, b3, b4⟩, h2 H1 m⟩
end LX
namespace LX
open PySem L2
section
variable {K : PySem.W.Frag} {a D : Addr} {g : TG} {tt : TT} {te : TE} {vs : List Nat} {σ : L2.St} {H1 : Hp} {Qd : Hp → Prop}
/-- a comprehension over any walk whose items are new tuples (made from some of zs) -/
theorem lc_mkf {J : It} {n : Nat} {Y : Nat → Hp → V → Hp → Prop} {α β : Type} {m : β → List V} {zs : List α} (w : Walk J n (fun H => Same H1 H) Y) (f : α → Option β) (hn : zs.length = n) (hz : n ≤ 1000) (hD : H1 D = none)
    (hs : ∀ i e x H H', zs[i]? = some e → Same H1 H → Y i H x H' → ∀ (T : V → Hp → Prop) (F : Hp → Prop), (∀ t b H4, f e = some b → Same H H4 → H4 t = some (.tup (m b)) → T (.ref t) H4) → (∀ H4, f e = none → Same H H4 → F H4) →
      g x (wipe σ vs) H' fun σ2 H2 => wipe σ2 vs = wipe σ vs ∧ tt σ2 H2 fun b H3 => if b = true then te σ2 H3 T else F H3)
    (hd : ∀ H' us, Same H1 H' → H' D = some (.lst (us.map V.ref)) → TsAt m H' us (zs.filterMap f) → Qd H') :
    ∃ W : Nat → Nat → Hp → Prop, (∃ m, W 0 m (upd H1 D (.lst []))) ∧ ∀ i m H, W i m H →
      (J.stop i H ∧ Qd H) ∨ (J.go i H ∧ ∃ Nx : Hp → Prop, (∀ H', Nx H' → ∃ m', m' < m ∧ W (i + 1) m' H') ∧ ∀ x H', J.yld i H x H' → g x (wipe σ vs) H' fun σ2 H2 => wipe σ2 vs = wipe σ vs ∧ tt σ2 H2 fun b H3 =>
        if b = true then te σ2 H3 fun y H4 => ∃ acc, H4 D = some (.lst acc) ∧ acc.length < sizeLine ∧ Nx (upd H4 D (.lst (acc ++ [y]))) else Nx H3) := by
  refine lc_it w (fun i H => Same H1 H ∧ ∃ us : List Addr, H D = some (.lst (us.map V.ref)) ∧ TsAt m H us ((zs.take i).filterMap f)) ⟨sNew hD, [], upd_same, True.intro⟩ (fun _ _ _ h => h.1) ?_ ?_
  · rintro i x H H' hi ⟨s, us, e, t⟩ y
    have hx : zs[i]? = some (zs[i]'(by omega)) := List.getElem?_eq_getElem _
    have ul := t.len
    have fl := List.length_filterMap_le f (zs.take i)
    rw [List.length_take] at fl
    refine hs i _ x H H' hx s y _ _ (fun t4 b H4 hb s4 ht4 => ⟨_, s4 _ _ e, small1000 (by rw [List.length_map]; omega), sUpd (s.trans s4) hD, us ++ [t4], by rw [upd_same, List.map_append]; rfl, ?_⟩) fun H4 hb s4 => ⟨s.trans s4, us, s4 _ _ e, ?_⟩
    · have tD : t4 ≠ D := fun z => by
        rw [z, s4 _ _ e] at ht4
        cases ht4
      rw [take_of hx, List.filterMap_append, List.filterMap_cons_some hb]
      exact ((t.mono (sTups s4)).off (s4 _ _ e)).snoc (by rw [upd_ne tD]; exact ht4)
    · rw [take_of hx, List.filterMap_append, List.filterMap_cons_none hb]
      show TsAt m H4 us (_ ++ [])
      rw [List.append_nil]
      exact t.mono (sTups s4)
  · rintro H ⟨s, us, e, t⟩
    rw [← hn, List.take_length] at t
    exact hd H us s e t
end
theorem fm_filt {α : Type} (p : α → Bool) : ∀ l : List α, l.filterMap (fun e => if p e = true then some e else none) = l.filter p
  | [] => rfl
  | x :: l => by
    have ih := fm_filt p l
    cases q : p x with
    | true =>
      rw [List.filter_cons_of_pos q, ← ih]
      exact List.filterMap_cons_some (by rw [if_pos q])
    | false =>
      rw [List.filter_cons_of_neg (by rw [q]; exact Bool.false_ne_true), ← ih]
      exact List.filterMap_cons_none (by rw [if_neg (by rw [q]; exact Bool.false_ne_true)])
end LX

namespace LX
open PySem L2
theorem Vr.by_perm {r r' : Row} (V0 : Vr r) (p : r'.Perm r) : Vr r' := by
  have l := p.length_eq
  exact ⟨by rw [l]; exact V0.n1, by rw [l]; exact V0.n2, fun e he => V0.col e (p.mem_iff.mp he), by rw [l]; exact (p.map _).trans V0.perm⟩
theorem TupsAt.rev' {H : Hp} : ∀ {ts : List Addr} {r : Row}, TupsAt H ts r → TupsAt H ts.reverse r.reverse
  | [], [], h => h
  | t :: ts, e :: r, h => by
    rw [List.reverse_cons, List.reverse_cons]
    exact (TupsAt.rev' (ts := ts) (r := r) h.2).app (TupsAt.one h.1)
  | [], _ :: _, h => h.elim
  | _ :: _, [], h => h.elim
/-- the bag, the lineup and the calls, three objects -/
structure Ew (H : Hp) (p l c : Addr) (r : Row) (cs : List Nat) (b : Nat) : Prop where
  S : SrcN H p b
  R : RowAt H l r
  V : Vr r
  gc : H c = some (.lst (cs.map vN))
  hcs : ∀ q ∈ cs, q < r.length
  ncp : c ≠ p
  nlc : l ≠ c
/-- all but these three stay -/
def Off3 (p l c : Addr) (H H' : Hp) : Prop := ∀ b o, H b = some o → b ≠ p → b ≠ l → b ≠ c → H' b = some o
theorem Off3.refl {p l c : Addr} {H : Hp} : Off3 p l c H H := fun _ _ e _ _ _ => e
theorem Off3.same {p l c : Addr} {H H1 H2 : Hp} (a : Off3 p l c H H1) (s : Same H1 H2) : Off3 p l c H H2 := fun x o e n1 n2 n3 => s _ _ (a x o e n1 n2 n3)
theorem Off3.draw {p l c : Addr} {H H1 H2 : Hp} (a : Off3 p l c H H1) (f : ∀ x, x ≠ p → H2 x = H1 x) : Off3 p l c H H2 := fun x o e n1 n2 n3 => by
  rw [f x n1]
  exact a x o e n1 n2 n3
theorem Off3.setc {p l c : Addr} {H H1 : Hp} {o : HO} (a : Off3 p l c H H1) : Off3 p l c H (upd H1 c o) := fun x o e n1 n2 n3 => by
  rw [upd_ne n3]
  exact a x o e n1 n2 n3
theorem Off3.setl {p l c : Addr} {H H1 : Hp} {o : HO} (a : Off3 p l c H H1) : Off3 p l c H (upd H1 l o) := fun x o e n1 n2 n3 => by
  rw [upd_ne n2]
  exact a x o e n1 n2 n3
section
variable {H H' : Hp} {p l c : Addr} {r : Row} {cs : List Nat} {b b' : Nat}
theorem srcLst (S : SrcN H p b) : ∃ xs, H p = some (.lst xs) ∧ xs.length = 3 ∧ ∀ x ∈ xs, ∃ i, x = V.int i := by
  obtain ⟨s0, s1, s2, e, _⟩ := S.ex
  refine ⟨_, e, rfl, fun x hx => ?_⟩
  rcases List.mem_cons.mp hx with z | hx
  · exact ⟨_, z⟩
  rcases List.mem_cons.mp hx with z | hx
  · exact ⟨_, z⟩
  · exact ⟨_, List.mem_singleton.mp hx⟩
theorem row_ne_src (S : SrcN H p b) (h : RowAt H l r) : l ≠ p := fun z => by
  obtain ⟨s0, s1, s2, e, _⟩ := S.ex
  obtain ⟨ts, h1, _⟩ := h
  rw [z, e] at h1
  injection h1 with h1
  injection h1 with h1
  cases ts with
  | nil => cases h1
  | cons t ts => cases h1
theorem RowAt.off' {xs : List V} {o : HO} {q : Addr} (h : RowAt H l r) (hq : H q = some (.lst xs)) (n : l ≠ q) : RowAt (upd H q o) l r := by
  obtain ⟨ts, h1, h2⟩ := h
  refine ⟨ts, by rw [upd_ne n]; exact h1, h2.mono fun x ys e => ?_⟩
  rw [upd_ne fun z => by rw [z, hq] at e; cases e]
  exact e
theorem Ew.nlp (E : Ew H p l c r cs b) : l ≠ p := row_ne_src E.S E.R
theorem Ew.same (E : Ew H p l c r cs b) (s : Same H H') : Ew H' p l c r cs b := ⟨E.S.same s, E.R.same s, E.V, s _ _ E.gc, E.hcs, E.ncp, E.nlc⟩
theorem Ew.draw (E : Ew H p l c r cs b) (S : SrcN H' p b') (f : ∀ x, x ≠ p → H' x = H x) : Ew H' p l c r cs b' := by
  obtain ⟨xs, hp, _⟩ := srcLst E.S
  have nlp := E.nlp
  refine ⟨S, ?_, E.V, by rw [f c E.ncp]; exact E.gc, E.hcs, E.ncp, E.nlc⟩
  obtain ⟨ts, h1, h2⟩ := E.R
  refine ⟨ts, by rw [f l nlp]; exact h1, h2.mono fun x ys e => ?_⟩
  rw [f x fun z => by rw [z, hp] at e; cases e]
  exact e
theorem Ew.setc (E : Ew H p l c r cs b) {cs' : List Nat} (h : ∀ q ∈ cs', q < r.length) {xs : List L2.V} (hx : xs = cs'.map vN) : Ew (upd H c (.lst xs)) p l c r cs' b := by
  subst hx
  obtain ⟨s0, s1, s2, e, h1, h2⟩ := E.S.ex
  exact ⟨⟨s0, s1, s2, by rw [upd_ne (Ne.symm E.ncp)]; exact e, h1, h2⟩, E.R.off' E.gc E.nlc, E.V, upd_same, h, E.ncp, E.nlc⟩
theorem Ew.setl (E : Ew H p l c r cs b) {r' : Row} {ts' : List Addr} (ht : TupsAt H ts' r') (hp : r'.Perm r) {xs : List L2.V} (hx : xs = ts'.map V.ref) : Ew (upd H l (.lst xs)) p l c r' cs b := by
  subst hx
  obtain ⟨ts, h1, h2⟩ := E.R
  obtain ⟨s0, s1, s2, e, h3, h4⟩ := E.S.ex
  have nlp := E.nlp
  refine ⟨⟨s0, s1, s2, by rw [upd_ne nlp.symm]; exact e, h3, h4⟩, ⟨ts', upd_same, ht.mono fun x ys e => ?_⟩, E.V.by_perm hp, by rw [upd_ne E.nlc.symm]; exact E.gc, by rw [hp.length_eq]; exact E.hcs, E.ncp, E.nlc⟩
  rw [upd_ne fun z => by rw [z, h1] at e; cases e]
  exact e
end
abbrev dC (cs : List Nat) : PyData := dI (cs.map fun c : Nat => (c : Int))
section
variable {K : PySem.W.Frag}
theorem dp_cs {H : Hp} {c : Addr} {cs : List Nat} (h : H c = some (.lst (cs.map vN))) : Dp K H (.ref c) (dC cs) := .lst (SqL.of h) (by
  have := dp_ints (K := K) (H := H) (cs.map fun c : Nat => (c : Int))
  rw [List.map_map] at this
  exact this)
abbrev d0 (r : Row) (cs : List Nat) : PyData := .list [dR r, dC cs]
theorem sh_dC {n : Nat} {cs : List Nat} (hn : n ≤ 60) (hcs : ∀ p ∈ cs, p < n) (hz : cs.length ≤ 240) : Sh 13 1 10000 (dC cs) := by
  have h := Sh.list (B := 13) (n := 0) (m := 40) (xs := (cs.map fun c : Nat => (c : Int)).map PyData.int) fun x hx => by
    obtain ⟨i, hi, rfl⟩ := List.mem_map.mp hx
    obtain ⟨q, hq, rfl⟩ := List.mem_map.mp hi
    refine Sh.int ?_
    have := hcs q hq
    have e : (10 : Nat) ^ 12 = 1000000000000 := by decide
    omega
  refine h.mono (by decide) ?_
  rw [List.length_map, List.length_map]
  omega
theorem sh_d0 {r : Row} {cs : List Nat} (V0 : Vr r) (hcs : ∀ p ∈ cs, p < r.length) (hz : cs.length ≤ 240) : Sh 13 3 30000 (d0 r cs) := by
  refine (Sh.list (n := 2) (m := 10000) fun x hx => ?_).mono (Nat.le_refl _) (show 2 * 10001 ≤ 30000 by decide)
  rcases List.mem_cons.mp hx with z | z
  · rw [z]
    exact (sh_row V0).mono (by decide) (by decide)
  · rw [List.mem_singleton.mp z]
    exact (sh_dC V0.n2 hcs hz).mono (by decide) (Nat.le_refl _)
theorem dp_d0 {H : Hp} {N l c : Addr} {r : Row} {cs : List Nat} (h : H N = some (.lst [.ref l, .ref c])) (h1 : RowAt H l r) (h2 : H c = some (.lst (cs.map vN))) : Dp K H (.ref N) (d0 r cs) :=
  .lst (SqL.of h) (.cons h1.dp (.cons (dp_cs h2) .nil))
/-- repr([lineup, calls]) -/
theorem rd_reprE {H : Hp} {Q : VK} {N p l c : Addr} {r : Row} {cs : List Nat} {b : Nat} (E : Ew H p l c r cs b) (hz : cs.length ≤ 240) (h : H N = some (.lst [.ref l, .ref c])) (q : Q (.str (d0 r cs).shown) H) : qRepr K [.ref N] H Q :=
  rd_repr (dp_d0 h E.R E.gc) (sh_d0 E.V E.hcs hz) (by decide) (by decide) q
end
end LX
namespace LX
open PySem L2
theorem _root_.L2.Same.draw {H0 H1 H2 : Hp} {p : Addr} (s : Same H0 H1) (hp : H0 p = none) (f : ∀ x, x ≠ p → H2 x = H1 x) : Same H0 H2 := fun x o e => by
  rw [f x (ne_of_none e hp)]
  exact s _ _ e
theorem _root_.L2.Same.off' {H0 H1 H2 : Hp} {p : Addr} (s : Same H0 H1) (hp : H0 p = none) (f : Same' p H1 H2) : Same H0 H2 := fun x o e => f _ _ (s _ _ e) (ne_of_none e hp)
theorem Ew.off {H : Hp} {p l c q : Addr} {r : Row} {cs : List Nat} {b : Nat} {xs : List L2.V} {o : HO} (E : Ew H p l c r cs b) (hq : H q = some (.lst xs)) (n1 : q ≠ p) (n2 : l ≠ q) (n3 : c ≠ q) : Ew (upd H q o) p l c r cs b := by
  obtain ⟨s0, s1, s2, e, h3, h4⟩ := E.S.ex
  exact ⟨⟨s0, s1, s2, by rw [upd_ne n1.symm]; exact e, h3, h4⟩, E.R.off' hq n2, E.V, by rw [upd_ne n3]; exact E.gc, E.hcs, E.ncp, E.nlc⟩
theorem Ew.le {H : Hp} {p l c : Addr} {r : Row} {cs : List Nat} {b b' : Nat} (E : Ew H p l c r cs b) (h : b ≤ b') : Ew H p l c r cs b' := ⟨E.S.mono h, E.R, E.V, E.gc, E.hcs, E.ncp, E.nlc⟩
end LX

namespace LX
open PySem L2
theorem pickI3 (a b c : Int) {j : Int} (h0 : 0 ≤ j) (h1 : j < 3) : ∃ x : Int, atI [V.int a, V.int b, V.int c] j = some (.int x) ∧ (x = a ∨ x = b ∨ x = c) := by
  have : j = 0 ∨ j = 1 ∨ j = 2 := by omega
  rcases this with e | e | e
  · subst e
    exact ⟨a, rfl, Or.inl rfl⟩
  · subst e
    exact ⟨b, rfl, Or.inr (Or.inl rfl)⟩
  · subst e
    exact ⟨c, rfl, Or.inr (Or.inr rfl)⟩
theorem rd_slI {K : PySem.W.Frag} {H : Hp} {Q : VK} {l : Addr} {ns : List Int} {lo hi : Option Int} (hS : Scr K H l ns) (q : ∀ b (ms : List Int), H b = none → ms.length ≤ ns.length → Q (.ref b) (upd H b (.lst (ms.map V.int)))) : rSlL K (.ref l) lo hi H Q := by
  obtain ⟨ms, e1, e2⟩ := cut_ints ns lo hi
  exact ⟨l, _, rfl, hS.seq, fun b hb => by rw [e1]; exact q b ms hb e2⟩
end LX

namespace K77
open PySem L2 LX
def top (i : Nat) : Stmt := PySem.Challenge.pw_lastother_k77_one_color_and_colors_left.main.body.getD i (.Pass ⟨0, 0, 0, 0⟩)
abbrev s__law_bag : Stmt := top 29
abbrev s__law_draw : Stmt := top 30
abbrev s__law_lineup : Stmt := top 31
abbrev s__law_leveling_calls : Stmt := top 39
abbrev s__law_calls : Stmt := top 32
abbrev s__law_called : Stmt := top 33
abbrev s__law_applied : Stmt := top 34
abbrev s__law_rounds : Stmt := top 35
abbrev s__law_colors : Stmt := top 36
abbrev s_is_integer : Stmt := top 6
abbrev s_is_color : Stmt := top 7
abbrev s_is_colored_integer : Stmt := top 13
abbrev s_is_lineup : Stmt := top 10
abbrev s_check_lineup : Stmt := top 12
abbrev s_is_person : Stmt := top 19
abbrev s_check_calls : Stmt := top 20
abbrev s_check_round : Stmt := top 25
abbrev s_first_other_color : Stmt := top 14
abbrev s_colors_by_person : Stmt := top 15
abbrev s_apply_call : Stmt := top 18
abbrev s_lineup_after : Stmt := top 17
abbrev s_lineups_by_round : Stmt := top 24
abbrev s_rounds_until_one_color : Stmt := top 22
abbrev s_is_order : Stmt := top 27
abbrev s_check_order : Stmt := top 26
abbrev s_colors_in_order : Stmt := top 11
abbrev s_colors_left_by : Stmt := top 23
abbrev s__law_equal : Stmt := top 37
abbrev s__law_holds : Stmt := top 38
abbrev s_law : Stmt := top 40
structure Ad where
  f__law_bag : Addr
  d__law_bag : FuncData
  f__law_draw : Addr
  d__law_draw : FuncData
  f__law_lineup : Addr
  d__law_lineup : FuncData
  f__law_leveling_calls : Addr
  d__law_leveling_calls : FuncData
  f__law_calls : Addr
  d__law_calls : FuncData
  f__law_called : Addr
  d__law_called : FuncData
  f__law_applied : Addr
  d__law_applied : FuncData
  f__law_rounds : Addr
  d__law_rounds : FuncData
  f__law_colors : Addr
  d__law_colors : FuncData
  f_is_integer : Addr
  d_is_integer : FuncData
  f_is_color : Addr
  d_is_color : FuncData
  f_is_colored_integer : Addr
  d_is_colored_integer : FuncData
  f_is_lineup : Addr
  d_is_lineup : FuncData
  f_check_lineup : Addr
  d_check_lineup : FuncData
  f_is_person : Addr
  d_is_person : FuncData
  f_check_calls : Addr
  d_check_calls : FuncData
  f_check_round : Addr
  d_check_round : FuncData
  f_first_other_color : Addr
  d_first_other_color : FuncData
  f_colors_by_person : Addr
  d_colors_by_person : FuncData
  f_apply_call : Addr
  d_apply_call : FuncData
  f_lineup_after : Addr
  d_lineup_after : FuncData
  f_lineups_by_round : Addr
  d_lineups_by_round : FuncData
  f_rounds_until_one_color : Addr
  d_rounds_until_one_color : FuncData
  f_is_order : Addr
  d_is_order : FuncData
  f_check_order : Addr
  d_check_order : FuncData
  f_colors_in_order : Addr
  d_colors_in_order : FuncData
  f_colors_left_by : Addr
  d_colors_left_by : FuncData
  f__law_equal : Addr
  d__law_equal : FuncData
  f__law_holds : Addr
  d__law_holds : FuncData
  f_law : Addr
  d_law : FuncData
  t_MOST_PEOPLE : Tok
structure Txt (K : PySem.W.Frag) (mg : Str → Option Value) (a : Ad) : Prop where
  b_all : mg "all" = none
  b_bool : mg "bool" = none
  b_dict : mg "dict" = none
  b_enumerate : mg "enumerate" = none
  b_int : mg "int" = none
  b_isinstance : mg "isinstance" = none
  b_len : mg "len" = none
  b_list : mg "list" = none
  b_max : mg "max" = none
  b_min : mg "min" = none
  b_range : mg "range" = none
  b_repr : mg "repr" = none
  b_set : mg "set" = none
  b_sorted : mg "sorted" = none
  b_str : mg "str" = none
  b_tuple : mg "tuple" = none
  b_type : mg "type" = none
  b_zip : mg "zip" = none
  c_MOST_PEOPLE : mg "MOST_PEOPLE" = some (.int 60 a.t_MOST_PEOPLE)
  F__law_bag : Fun K "_law_bag" "_law_bag" s__law_bag a.f__law_bag a.d__law_bag
  n__law_bag : Binds K a.d__law_bag ["cell"] []
  g__law_bag : mg "_law_bag" = some (.ref a.f__law_bag)
  k__law_bag : PySem.W.keepIn K (.ref a.f__law_bag) = true
  F__law_draw : Fun K "_law_draw" "_law_draw" s__law_draw a.f__law_draw a.d__law_draw
  n__law_draw : Binds K a.d__law_draw ["bag", "limit"] []
  g__law_draw : mg "_law_draw" = some (.ref a.f__law_draw)
  k__law_draw : PySem.W.keepIn K (.ref a.f__law_draw) = true
  F__law_lineup : Fun K "_law_lineup" "_law_lineup" s__law_lineup a.f__law_lineup a.d__law_lineup
  n__law_lineup : Binds K a.d__law_lineup ["bag", "most"] []
  g__law_lineup : mg "_law_lineup" = some (.ref a.f__law_lineup)
  k__law_lineup : PySem.W.keepIn K (.ref a.f__law_lineup) = true
  F__law_leveling_calls : Fun K "_law_leveling_calls" "_law_leveling_calls" s__law_leveling_calls a.f__law_leveling_calls a.d__law_leveling_calls
  n__law_leveling_calls : Binds K a.d__law_leveling_calls ["bag", "lineup"] []
  g__law_leveling_calls : mg "_law_leveling_calls" = some (.ref a.f__law_leveling_calls)
  k__law_leveling_calls : PySem.W.keepIn K (.ref a.f__law_leveling_calls) = true
  F__law_calls : Fun K "_law_calls" "_law_calls" s__law_calls a.f__law_calls a.d__law_calls
  n__law_calls : Binds K a.d__law_calls ["bag", "size", "most"] []
  g__law_calls : mg "_law_calls" = some (.ref a.f__law_calls)
  k__law_calls : PySem.W.keepIn K (.ref a.f__law_calls) = true
  F__law_called : Fun K "_law_called" "_law_called" s__law_called a.f__law_called a.d__law_called
  n__law_called : Binds K a.d__law_called ["lineup", "person"] []
  g__law_called : mg "_law_called" = some (.ref a.f__law_called)
  k__law_called : PySem.W.keepIn K (.ref a.f__law_called) = true
  F__law_applied : Fun K "_law_applied" "_law_applied" s__law_applied a.f__law_applied a.d__law_applied
  n__law_applied : Binds K a.d__law_applied ["lineup", "calls"] []
  g__law_applied : mg "_law_applied" = some (.ref a.f__law_applied)
  k__law_applied : PySem.W.keepIn K (.ref a.f__law_applied) = true
  F__law_rounds : Fun K "_law_rounds" "_law_rounds" s__law_rounds a.f__law_rounds a.d__law_rounds
  n__law_rounds : Binds K a.d__law_rounds ["lineup", "calls"] []
  g__law_rounds : mg "_law_rounds" = some (.ref a.f__law_rounds)
  k__law_rounds : PySem.W.keepIn K (.ref a.f__law_rounds) = true
  F__law_colors : Fun K "_law_colors" "_law_colors" s__law_colors a.f__law_colors a.d__law_colors
  n__law_colors : Binds K a.d__law_colors ["lineup", "people"] []
  g__law_colors : mg "_law_colors" = some (.ref a.f__law_colors)
  k__law_colors : PySem.W.keepIn K (.ref a.f__law_colors) = true
  F_is_integer : Fun K "is_integer" "is_integer" s_is_integer a.f_is_integer a.d_is_integer
  n_is_integer : Binds K a.d_is_integer ["value"] []
  g_is_integer : mg "is_integer" = some (.ref a.f_is_integer)
  k_is_integer : PySem.W.keepIn K (.ref a.f_is_integer) = true
  F_is_color : Fun K "is_color" "is_color" s_is_color a.f_is_color a.d_is_color
  n_is_color : Binds K a.d_is_color ["value"] []
  g_is_color : mg "is_color" = some (.ref a.f_is_color)
  k_is_color : PySem.W.keepIn K (.ref a.f_is_color) = true
  F_is_colored_integer : Fun K "is_colored_integer" "is_colored_integer" s_is_colored_integer a.f_is_colored_integer a.d_is_colored_integer
  n_is_colored_integer : Binds K a.d_is_colored_integer ["value"] []
  g_is_colored_integer : mg "is_colored_integer" = some (.ref a.f_is_colored_integer)
  k_is_colored_integer : PySem.W.keepIn K (.ref a.f_is_colored_integer) = true
  F_is_lineup : Fun K "is_lineup" "is_lineup" s_is_lineup a.f_is_lineup a.d_is_lineup
  n_is_lineup : Binds K a.d_is_lineup ["value"] []
  g_is_lineup : mg "is_lineup" = some (.ref a.f_is_lineup)
  k_is_lineup : PySem.W.keepIn K (.ref a.f_is_lineup) = true
  F_check_lineup : Fun K "check_lineup" "check_lineup" s_check_lineup a.f_check_lineup a.d_check_lineup
  n_check_lineup : Binds K a.d_check_lineup ["value"] []
  g_check_lineup : mg "check_lineup" = some (.ref a.f_check_lineup)
  k_check_lineup : PySem.W.keepIn K (.ref a.f_check_lineup) = true
  F_is_person : Fun K "is_person" "is_person" s_is_person a.f_is_person a.d_is_person
  n_is_person : Binds K a.d_is_person ["lineup", "value"] []
  g_is_person : mg "is_person" = some (.ref a.f_is_person)
  k_is_person : PySem.W.keepIn K (.ref a.f_is_person) = true
  F_check_calls : Fun K "check_calls" "check_calls" s_check_calls a.f_check_calls a.d_check_calls
  n_check_calls : Binds K a.d_check_calls ["lineup", "value"] []
  g_check_calls : mg "check_calls" = some (.ref a.f_check_calls)
  k_check_calls : PySem.W.keepIn K (.ref a.f_check_calls) = true
  F_check_round : Fun K "check_round" "check_round" s_check_round a.f_check_round a.d_check_round
  n_check_round : Binds K a.d_check_round ["lineup", "calls"] []
  g_check_round : mg "check_round" = some (.ref a.f_check_round)
  k_check_round : PySem.W.keepIn K (.ref a.f_check_round) = true
  F_first_other_color : Fun K "first_other_color" "first_other_color" s_first_other_color a.f_first_other_color a.d_first_other_color
  n_first_other_color : Binds K a.d_first_other_color ["lineup", "color"] []
  g_first_other_color : mg "first_other_color" = some (.ref a.f_first_other_color)
  k_first_other_color : PySem.W.keepIn K (.ref a.f_first_other_color) = true
  F_colors_by_person : Fun K "colors_by_person" "colors_by_person" s_colors_by_person a.f_colors_by_person a.d_colors_by_person
  n_colors_by_person : Binds K a.d_colors_by_person ["lineup"] []
  g_colors_by_person : mg "colors_by_person" = some (.ref a.f_colors_by_person)
  k_colors_by_person : PySem.W.keepIn K (.ref a.f_colors_by_person) = true
  F_apply_call : Fun K "apply_call" "apply_call" s_apply_call a.f_apply_call a.d_apply_call
  n_apply_call : Binds K a.d_apply_call ["lineup", "person"] []
  g_apply_call : mg "apply_call" = some (.ref a.f_apply_call)
  k_apply_call : PySem.W.keepIn K (.ref a.f_apply_call) = true
  F_lineup_after : Fun K "lineup_after" "lineup_after" s_lineup_after a.f_lineup_after a.d_lineup_after
  n_lineup_after : Binds K a.d_lineup_after ["lineup", "calls"] []
  g_lineup_after : mg "lineup_after" = some (.ref a.f_lineup_after)
  k_lineup_after : PySem.W.keepIn K (.ref a.f_lineup_after) = true
  F_lineups_by_round : Fun K "lineups_by_round" "lineups_by_round" s_lineups_by_round a.f_lineups_by_round a.d_lineups_by_round
  n_lineups_by_round : Binds K a.d_lineups_by_round ["lineup", "calls"] []
  g_lineups_by_round : mg "lineups_by_round" = some (.ref a.f_lineups_by_round)
  k_lineups_by_round : PySem.W.keepIn K (.ref a.f_lineups_by_round) = true
  F_rounds_until_one_color : Fun K "rounds_until_one_color" "rounds_until_one_color" s_rounds_until_one_color a.f_rounds_until_one_color a.d_rounds_until_one_color
  n_rounds_until_one_color : Binds K a.d_rounds_until_one_color ["lineup", "calls"] []
  g_rounds_until_one_color : mg "rounds_until_one_color" = some (.ref a.f_rounds_until_one_color)
  k_rounds_until_one_color : PySem.W.keepIn K (.ref a.f_rounds_until_one_color) = true
  F_is_order : Fun K "is_order" "is_order" s_is_order a.f_is_order a.d_is_order
  n_is_order : Binds K a.d_is_order ["lineup", "value"] []
  g_is_order : mg "is_order" = some (.ref a.f_is_order)
  k_is_order : PySem.W.keepIn K (.ref a.f_is_order) = true
  F_check_order : Fun K "check_order" "check_order" s_check_order a.f_check_order a.d_check_order
  n_check_order : Binds K a.d_check_order ["lineup", "value"] []
  g_check_order : mg "check_order" = some (.ref a.f_check_order)
  k_check_order : PySem.W.keepIn K (.ref a.f_check_order) = true
  F_colors_in_order : Fun K "colors_in_order" "colors_in_order" s_colors_in_order a.f_colors_in_order a.d_colors_in_order
  n_colors_in_order : Binds K a.d_colors_in_order ["lineup"] []
  g_colors_in_order : mg "colors_in_order" = some (.ref a.f_colors_in_order)
  k_colors_in_order : PySem.W.keepIn K (.ref a.f_colors_in_order) = true
  F_colors_left_by : Fun K "colors_left_by" "colors_left_by" s_colors_left_by a.f_colors_left_by a.d_colors_left_by
  n_colors_left_by : Binds K a.d_colors_left_by ["lineup", "order"] []
  g_colors_left_by : mg "colors_left_by" = some (.ref a.f_colors_left_by)
  k_colors_left_by : PySem.W.keepIn K (.ref a.f_colors_left_by) = true
  F__law_equal : Fun K "_law_equal" "_law_equal" s__law_equal a.f__law_equal a.d__law_equal
  n__law_equal : Binds K a.d__law_equal ["found", "due"] []
  g__law_equal : mg "_law_equal" = some (.ref a.f__law_equal)
  k__law_equal : PySem.W.keepIn K (.ref a.f__law_equal) = true
  F__law_holds : Fun K "_law_holds" "_law_holds" s__law_holds a.f__law_holds a.d__law_holds
  n__law_holds : Binds K a.d__law_holds ["lineup", "calls", "order"] []
  g__law_holds : mg "_law_holds" = some (.ref a.f__law_holds)
  k__law_holds : PySem.W.keepIn K (.ref a.f__law_holds) = true
  F_law : Fun K "law" "law" s_law a.f_law a.d_law
  n_law : Binds K a.d_law ["script"] []
  g_law : mg "law" = some (.ref a.f_law)
  k_law : PySem.W.keepIn K (.ref a.f_law) = true
theorem sc__law_bag : FnScope ["cell"] ["cell"] (defScope s__law_bag) := ⟨rfl, rfl, rfl, by decide +kernel, rfl, by decide +kernel, by decide +kernel⟩
theorem sc__law_draw : FnScope ["bag", "limit", "digit", "mixed"] ["bag", "limit"] (defScope s__law_draw) := ⟨rfl, rfl, rfl, by decide +kernel, rfl, by decide +kernel, by decide +kernel⟩
theorem sc__law_lineup : FnScope ["bag", "most", "size", "letters", "style", "left", "found", "k", "color"] ["bag", "most"] (defScope s__law_lineup) := ⟨rfl, rfl, rfl, by decide +kernel, rfl, by decide +kernel, by decide +kernel⟩
theorem sc__law_leveling_calls : FnScope ["bag", "lineup", "found", "more", "person", "color", "k"] ["bag", "lineup"] (defScope s__law_leveling_calls) := ⟨rfl, rfl, rfl, by decide +kernel, rfl, by decide +kernel, by decide +kernel⟩
theorem sc__law_calls : FnScope ["bag", "size", "most", "style", "wide", "first", "found", "k", "person"] ["bag", "size", "most"] (defScope s__law_calls) := ⟨rfl, rfl, rfl, by decide +kernel, rfl, by decide +kernel, by decide +kernel⟩
theorem sc__law_called : FnScope ["lineup", "person", "own", "others", "new", "one", "color", "pair"] ["lineup", "person"] (defScope s__law_called) := ⟨rfl, rfl, rfl, by decide +kernel, rfl, by decide +kernel, by decide +kernel⟩
theorem sc__law_applied : FnScope ["lineup", "calls", "found", "person"] ["lineup", "calls"] (defScope s__law_applied) := ⟨rfl, rfl, rfl, by decide +kernel, rfl, by decide +kernel, by decide +kernel⟩
theorem sc__law_rounds : FnScope ["lineup", "calls", "found"] ["lineup", "calls"] (defScope s__law_rounds) := ⟨rfl, rfl, rfl, by decide +kernel, rfl, by decide +kernel, by decide +kernel⟩
theorem sc__law_colors : FnScope ["lineup", "people", "members", "person", "color"] ["lineup", "people"] (defScope s__law_colors) := ⟨rfl, rfl, rfl, by decide +kernel, rfl, by decide +kernel, by decide +kernel⟩
theorem sc_is_integer : FnScope ["value"] ["value"] (defScope s_is_integer) := ⟨rfl, rfl, rfl, by decide +kernel, rfl, by decide +kernel, by decide +kernel⟩
theorem sc_is_color : FnScope ["value"] ["value"] (defScope s_is_color) := ⟨rfl, rfl, rfl, by decide +kernel, rfl, by decide +kernel, by decide +kernel⟩
theorem sc_is_colored_integer : FnScope ["value"] ["value"] (defScope s_is_colored_integer) := ⟨rfl, rfl, rfl, by decide +kernel, rfl, by decide +kernel, by decide +kernel⟩
theorem sc_is_lineup : FnScope ["value", "item", "person", "_"] ["value"] (defScope s_is_lineup) := ⟨rfl, rfl, rfl, by decide +kernel, rfl, by decide +kernel, by decide +kernel⟩
theorem sc_check_lineup : FnScope ["value"] ["value"] (defScope s_check_lineup) := ⟨rfl, rfl, rfl, by decide +kernel, rfl, by decide +kernel, by decide +kernel⟩
theorem sc_is_person : FnScope ["lineup", "value"] ["lineup", "value"] (defScope s_is_person) := ⟨rfl, rfl, rfl, by decide +kernel, rfl, by decide +kernel, by decide +kernel⟩
theorem sc_check_calls : FnScope ["lineup", "value", "index", "item"] ["lineup", "value"] (defScope s_check_calls) := ⟨rfl, rfl, rfl, by decide +kernel, rfl, by decide +kernel, by decide +kernel⟩
theorem sc_check_round : FnScope ["lineup", "calls"] ["lineup", "calls"] (defScope s_check_round) := ⟨rfl, rfl, rfl, by decide +kernel, rfl, by decide +kernel, by decide +kernel⟩
theorem sc_first_other_color : FnScope ["lineup", "color", "_", "worn"] ["lineup", "color"] (defScope s_first_other_color) := ⟨rfl, rfl, rfl, by decide +kernel, rfl, by decide +kernel, by decide +kernel⟩
theorem sc_colors_by_person : FnScope ["lineup", "colors", "person", "color"] ["lineup"] (defScope s_colors_by_person) := ⟨rfl, rfl, rfl, by decide +kernel, rfl, by decide +kernel, by decide +kernel⟩
theorem sc_apply_call : FnScope ["lineup", "person", "color", "taken", "others", "pair"] ["lineup", "person"] (defScope s_apply_call) := ⟨rfl, rfl, rfl, by decide +kernel, rfl, by decide +kernel, by decide +kernel⟩
theorem sc_lineup_after : FnScope ["lineup", "calls", "current", "person", "_"] ["lineup", "calls"] (defScope s_lineup_after) := ⟨rfl, rfl, rfl, by decide +kernel, rfl, by decide +kernel, by decide +kernel⟩
theorem sc_lineups_by_round : FnScope ["lineup", "calls", "known", "current"] ["lineup", "calls"] (defScope s_lineups_by_round) := ⟨rfl, rfl, rfl, by decide +kernel, rfl, by decide +kernel, by decide +kernel⟩
theorem sc_rounds_until_one_color : FnScope ["lineup", "calls", "known", "_", "rounds", "current"] ["lineup", "calls"] (defScope s_rounds_until_one_color) := ⟨rfl, rfl, rfl, by decide +kernel, rfl, by decide +kernel, by decide +kernel⟩
theorem sc_is_order : FnScope ["lineup", "value", "item"] ["lineup", "value"] (defScope s_is_order) := ⟨rfl, rfl, rfl, by decide +kernel, rfl, by decide +kernel, by decide +kernel⟩
theorem sc_check_order : FnScope ["lineup", "value"] ["lineup", "value"] (defScope s_check_order) := ⟨rfl, rfl, rfl, by decide +kernel, rfl, by decide +kernel, by decide +kernel⟩
theorem sc_colors_in_order : FnScope ["lineup", "found", "_", "color"] ["lineup"] (defScope s_colors_in_order) := ⟨rfl, rfl, rfl, by decide +kernel, rfl, by decide +kernel, by decide +kernel⟩
theorem sc_colors_left_by : FnScope ["lineup", "order"] ["lineup", "order"] (defScope s_colors_left_by) := ⟨rfl, rfl, rfl, by decide +kernel, rfl, by decide +kernel, by decide +kernel⟩
theorem sc__law_equal : FnScope ["found", "due", "one", "other"] ["found", "due"] (defScope s__law_equal) := ⟨rfl, rfl, rfl, by decide +kernel, rfl, by decide +kernel, by decide +kernel⟩
theorem sc__law_holds : FnScope ["lineup", "calls", "order", "before", "people", "lineups", "first", "single", "due", "told", "again", "k"] ["lineup", "calls", "order"] (defScope s__law_holds) := ⟨rfl, rfl, rfl, by decide +kernel, rfl, by decide +kernel, by decide +kernel⟩
theorem sc_law : FnScope ["script", "k", "cell", "bag", "is_last", "turn", "lineup", "size", "calls", "left", "order", "other", "j"] ["script"] (defScope s_law) := ⟨rfl, rfl, rfl, by decide +kernel, rfl, by decide +kernel, by decide +kernel⟩
end K77

/-! ### sorted of a list of tuples that are data -/
namespace LX
open PySem PySem.Spec PyProof.Rows L2
section
variable {α : Type}
/-- the order by data -/
abbrev leD (enc : α → List PyData) : α → α → Bool := PySem.W.dataLe false fun e => PyData.tuple (enc e)
/-- what must be told of the items -/
structure Srt1 (enc : α → List PyData) : Prop where
  alike : ∀ x y, PySem.W.alike (.tuple (enc x)) (.tuple (enc y)) = true
  first : ∀ x, ∃ d ds, enc x = d :: ds
  flat : ∀ x, (PyData.tuple (enc x)).depth ≤ 1
variable {X : Cx}
def rSortT (m : α → List V) (enc : α → List PyData) (K : PySem.W.Frag) : List V → Hp → VK → Prop := fun xs H Q => ∃ (a : Addr) (ts : List Addr) (zs : List α), xs = [.ref a] ∧ SqL K H a (ts.map V.ref) ∧ TsAt m H ts zs ∧ (∀ e, DpAll K H (m e) (enc e)) ∧ zs.length ≤ 1000 ∧
  ∀ (p : Addr) (us : List Addr) (ys : List α), H p = none → ys.Perm zs → ys.Pairwise (fun x y => leD enc x y = true) → TsAt m H us ys → Q (.ref p) (upd H p (.lst (us.map V.ref)))
theorem ts_zip {m : α → List V} {H : Hp} : ∀ {ts : List Addr} {zs : List α}, TsAt m H ts zs → ∀ b ∈ ts.zip zs, H b.1 = some (.tup (m b.2))
  | [], [], _, b, hb => by cases hb
  | t :: ts, z :: zs, h, b, hb => by
    rcases List.mem_cons.mp hb with e | e
    · rw [e]
      exact h.1
    · exact ts_zip (ts := ts) (zs := zs) h.2 b e
  | [], _ :: _, h, _, _ => h.elim
  | _ :: _, [], h, _, _ => h.elim
theorem zip_ts {m : α → List V} {H : Hp} : ∀ {bs : List (Addr × α)}, (∀ b ∈ bs, H b.1 = some (.tup (m b.2))) → TsAt m H (bs.map (·.1)) (bs.map (·.2))
  | [], _ => True.intro
  | b :: bs, h => ⟨h b List.mem_cons_self, zip_ts (bs := bs) fun c hc => h c (List.mem_cons_of_mem _ hc)⟩
theorem vals_refs1 : ∀ {ts : List Addr} {us : List Value}, Vals (ts.map V.ref) us → us = ts.map Value.ref
  | [], _, .nil => rfl
  | t :: ts, _, .cons r rs => by
    rw [List.map_cons, ← vals_refs1 rs]
    exact congrArg (· :: _) r
theorem each_zip {R : Value → Addr × α → Prop} : ∀ {ts : List Addr} {zs : List α}, ts.length = zs.length → (∀ b ∈ ts.zip zs, R (.ref b.1) b) → PySem.W.EachIs R (ts.map Value.ref) (ts.zip zs)
  | [], [], _, _ => .nil
  | t :: ts, z :: zs, h, k => .cons (k _ List.mem_cons_self) (each_zip (by simpa using h) fun b hb => k b (List.mem_cons_of_mem _ hb))
  | [], _ :: _, h, _ => by cases h
  | _ :: _, [], h, _ => by cases h
theorem each_refs {bs : List (Addr × α)} {out : List Value} (h : PySem.W.EachIs (fun v (b : Addr × α) => v = Value.ref b.1) out bs) : out = (bs.map (·.1)).map Value.ref := by
  induction h with
  | nil => rfl
  | cons h1 _ ih => rw [h1, ih]; rfl
theorem cr_sortT {m : α → List V} {enc : α → List PyData} (o : Srt1 enc) (hu : X.A.units + 64 < cLine) : CallR X (.builtin "sorted") (rSortT m enc X.K) := by
  intro pins s σ H xs us Q I r h
  obtain ⟨a, ts, zs, rfl, hs, ht, hd, hz, q⟩ := h
  obtain ⟨its, rv, pl, _⟩ := I.list hs
  rw [Vals.ref1 r]
  obtain rfl := vals_refs1 rv
  have tl := ht.len
  have reads : ∀ b ∈ ts.zip zs, ∃ as, Reads s.heap (.ref b.1) (.tuple (enc b.2)) as := fun b hb => Dp.reads I (.tuple (enc b.2)) (.ref b.1) (.ref b.1) (.tup (SqT.of (ts_zip ht b hb)) (hd b.2)) rfl
  have wide : ∀ b : Addr × α, X.A.units + 2 + (PyData.tuple (enc b.2)).depth < cLine := fun b => by
    have := o.flat b.2
    omega
  refine PySem.W.sorted_data (β := Addr × α) (enc := fun b => .tuple (enc b.2)) (R := fun v b => v = Value.ref b.1) (bs := ts.zip zs) pl.isList (each_zip tl fun b _ => rfl) (each_zip tl reads)
    (PySem.W.AllAlike.of fun b b' => o.alike b.2 b'.2) (PySem.W.Sortable.tuples fun b => ?_) (Nat.le_of_lt (small1000 ?_)) (fun b _ => wide b) fun out lo eo => ?_
  · obtain ⟨d, ds, e⟩ := o.first b.2
    exact ⟨d, ds, by rw [e]⟩
  · rw [List.length_zip]
    omega
  · obtain rfl := each_refs eo
    have pm := List.mergeSort_perm (ts.zip zs) (PySem.W.dataLe false fun b => PyData.tuple (enc b.2))
    have pw := PySem.W.sort_pairwise (PySem.W.sortLe_total (PyProof.Rows.listOrd PyProof.Rows.itemOrd) false fun b : Addr × α => PySem.W.keyToks (PyData.tuple (enc b.2))) (ts.zip zs)
    change List.Pairwise (fun x y : Addr × α => leD enc x.2 y.2 = true) ((ts.zip zs).mergeSort (PySem.W.dataLe false fun b => PyData.tuple (enc b.2))) at pw
    generalize (ts.zip zs).mergeSort (PySem.W.dataLe false fun b => PyData.tuple (enc b.2)) = bs at pm pw lo eo
    have back : (ts.zip zs).map (·.2) = zs := by
      rw [List.map_snd_zip (by omega)]
    have sz : ((bs.map (·.1)).map V.ref).length ≤ sizeLine := by
      refine Nat.le_of_lt (small1000 ?_)
      rw [List.length_map, List.length_map, pm.length_eq, List.length_zip]
      omega
    obtain ⟨c, at_⟩ := sortedAll_at s.heap (ts.map Value.ref) (((bs.map (·.1)).map Value.ref).toArray)
    have keep : ∀ b o, s.heap.get? b = some o → (sortedAll s.heap (ts.map Value.ref) (((bs.map (·.1)).map Value.ref).toArray)).get? b = some o := fun b o e => sortedAll_old e
    refine ⟨.ref (s.heap.objs.size + 1), upd H (s.heap.objs.size + 1) (.lst ((bs.map (·.1)).map V.ref)), I.laid (t' := s.toks) keep (Nat.le_succ _) ⟨sz, _, c, vals_refs _, by simpa using at_⟩, rfl, ?_⟩
    refine q _ _ (bs.map (·.2)) (I.hok.fresh (Nat.le_succ _)) ?_ (List.pairwise_map.mpr pw) (zip_ts fun b hb => ts_zip ht b (pm.mem_iff.mp hb))
    rw [← back]
    exact pm.map _
end
/-- tuples of a person and a letter -/
abbrev encP (e : Nat × Nat) : List PyData := [.int (e.1 : Int), .str ⟨#[e.2]⟩]
theorem leP {x y : Nat × Nat} (h : leD encP x y = true) : x.1 ≤ y.1 := by
  have h2 : (!PySem.W.dataLt (.tuple (encP y)) (.tuple (encP x))) = true := h
  have h3 : PySem.W.dataLt (.tuple (encP y)) (.tuple (encP x)) = false := by
    cases e : PySem.W.dataLt (.tuple (encP y)) (.tuple (encP x)) with
    | false => rfl
    | true =>
      rw [e] at h2
      cases h2
  by_cases c : x.1 ≤ y.1
  · exact c
  · rw [PySem.W.dataLt_pair (by simp [PySem.W.alike]) (by simp [PySem.W.alike]), PySem.W.dataLt_int] at h3
    have : ¬ ((y.1 : Int) = (x.1 : Int)) := by omega
    simp only [PyData.eqv, beq_iff_eq, this, if_false, decide_eq_false_iff_not] at h3
    omega
theorem srtP : Srt1 encP where
  alike := fun x y => by simp [PySem.W.alike, PySem.W.alikeAll]
  first := fun x => ⟨_, _, rfl⟩
  flat := fun x => by simp [PyData.depth, PyData.depthAll]
theorem ksortT {X : Cx} {α : Type} {K : PySem.W.Frag} {m : α → List V} {enc : α → List PyData} (o : Srt1 enc) (hu : X.A.units + 64 < cLine) (h : X.K = K := by rfl) : CallR X (.builtin "sorted") (rSortT m enc K) := by
  subst h
  exact cr_sortT o hu
/-- the people by their numbers -/
def bp (r : Row) : Row := (List.range r.length).map fun p => (p, colOf r p)
theorem bp_len (r : Row) : (bp r).length = r.length := by
  unfold bp
  rw [List.length_map, List.length_range]
theorem up_range : ∀ {l : List Nat} {n : Nat}, l.Perm (List.range n) → l.Pairwise (· ≤ ·) → l = List.range n := by
  intro l n p w
  exact p.eq_of_pairwise (le := (· ≤ ·)) (fun a b _ _ h1 h2 => Nat.le_antisymm h1 h2) w (List.pairwise_lt_range.imp fun h => Nat.le_of_lt h)
theorem bp_is {r ys : Row} (V0 : Vr r) (p : ys.Perm r) (w : ys.Pairwise (fun x y => leD encP x y = true)) : ys = bp r := by
  have e : ys.map (·.1) = List.range r.length := up_range ((p.map _).trans V0.perm) (List.pairwise_map.mpr (w.imp fun h => leP h))
  have l := p.length_eq
  apply List.ext_getElem?
  intro i
  unfold bp
  rw [List.getElem?_map]
  have ei : (ys.map (·.1))[i]? = (List.range r.length)[i]? := by rw [e]
  rw [List.getElem?_map] at ei
  cases q : ys[i]? with
  | none =>
    rw [q] at ei
    rw [← ei]
    rfl
  | some x =>
    rw [q] at ei
    rw [← ei]
    show some x = some (x.1, colOf r x.1)
    rw [colOf_is V0.nodup (p.mem_iff.mp (List.mem_of_getElem? q))]
theorem ts_row {H : Hp} : ∀ {ts : List Addr} {r : Row}, TupsAt H ts r → TsAt (fun e : Nat × Nat => pr e) H ts r
  | [], [], _ => True.intro
  | _ :: ts, _ :: r, h => ⟨h.1, ts_row (ts := ts) (r := r) h.2⟩
  | [], _ :: _, h => h.elim
  | _ :: _, [], h => h.elim
theorem row_ts {H : Hp} : ∀ {ts : List Addr} {r : Row}, TsAt (fun e : Nat × Nat => pr e) H ts r → TupsAt H ts r
  | [], [], _ => True.intro
  | _ :: ts, _ :: r, h => ⟨h.1, row_ts (ts := ts) (r := r) h.2⟩
  | [], _ :: _, h => h.elim
  | _ :: _, [], h => h.elim
theorem bp_vr {r : Row} (V0 : Vr r) : (bp r).Perm r := by
  have h := List.mergeSort_perm r (leD encP)
  have w := PySem.W.sort_pairwise (PySem.W.sortLe_total (PyProof.Rows.listOrd PyProof.Rows.itemOrd) false fun b : Nat × Nat => PySem.W.keyToks (PyData.tuple (encP b))) r
  change List.Pairwise (fun x y : Nat × Nat => leD encP x y = true) (r.mergeSort (leD encP)) at w
  rw [bp_is V0 h w] at h
  exact h
theorem rd_sortRow {K : PySem.W.Frag} {H : Hp} {Q : VK} {a : Addr} {r : Row} (hR : RowAt H a r) (V0 : Vr r) (q : ∀ p H', H p = none → Same H H' → RowAt H' p (bp r) → Q (.ref p) H') : rSortT (fun e : Nat × Nat => pr e) encP K [.ref a] H Q := by
  obtain ⟨ts, hl, ht⟩ := hR
  have n2 := V0.n2
  refine ⟨a, ts, r, rfl, SqL.of hl, ts_row ht, fun e => .cons (.int _) (.cons (.str _) .nil), by omega, fun p us ys hp pm pw hU => ?_⟩
  obtain rfl := bp_is V0 pm pw
  have s := sNew (o := .lst (us.map V.ref)) hp
  exact q p _ hp s ⟨us, upd_same, (row_ts hU).mono (sTups s)⟩
end LX

/-! Values by what they hold (Fr), objects that a def owns (Sep), what a call leaves (Ret). -/
namespace LQ
open PySem L2 LX
def dKey : Key → PyData
  | .inl i => .int i
  | .inr s => .str s
mutual
/-- v holds d; lists and dicts reached are none of H0's -/
inductive Fr (H0 H : Hp) : V → PyData → Prop
  | non : Fr H0 H .non .none
  | bl (b : Bool) : Fr H0 H (.bl b) (.bool b)
  | int (i : Int) : Fr H0 H (.int i) (.int i)
  | str (x : Str) : Fr H0 H (.str x) (.str x)
  | lst {a : Addr} {xs : List V} {ds : List PyData} : H a = some (.lst xs) → H0 a = none → FrL H0 H xs ds → Fr H0 H (.ref a) (.list ds)
  | tup {a : Addr} {xs : List V} {ds : List PyData} : H a = some (.tup xs) → FrL H0 H xs ds → Fr H0 H (.ref a) (.tuple ds)
  | dic {a : Addr} {kvs : List (Key × V)} {ds : List (PyData × PyData)} : Rd H a (.dK kvs) → H0 a = none → FrK H0 H kvs ds → Fr H0 H (.ref a) (.dict ds)
inductive FrL (H0 H : Hp) : List V → List PyData → Prop
  | nil : FrL H0 H [] []
  | cons {v : V} {vs : List V} {d : PyData} {ds : List PyData} : Fr H0 H v d → FrL H0 H vs ds → FrL H0 H (v :: vs) (d :: ds)
inductive FrK (H0 H : Hp) : List (Key × V) → List (PyData × PyData) → Prop
  | nil : FrK H0 H [] []
  | cons {k : Key} {v : V} {vs : List (Key × V)} {d : PyData} {ds : List (PyData × PyData)} : Fr H0 H v d → FrK H0 H vs ds → FrK H0 H ((k, v) :: vs) ((dKey k, d) :: ds)
end
theorem nodup_ix {α : Type} : ∀ {l : List α} {i j : Nat} {a : α}, l.Nodup → l[i]? = some a → l[j]? = some a → i = j
  | [], i, _, _, _, h, _ => by simp at h
  | x :: l, 0, 0, _, _, _, _ => rfl
  | x :: l, 0, j + 1, a, nd, h, k => by
    have e : x = a := by simpa using h
    exact absurd (e ▸ List.mem_of_getElem? (by simpa using k)) (List.nodup_cons.mp nd).1
  | x :: l, i + 1, 0, a, nd, h, k => by
    have e : x = a := by simpa using k
    exact absurd (e ▸ List.mem_of_getElem? (by simpa using h)) (List.nodup_cons.mp nd).1
  | x :: l, i + 1, j + 1, a, nd, h, k => congrArg (· + 1) (nodup_ix (List.nodup_cons.mp nd).2 (by simpa using h) (by simpa using k))
/-- the heap that holds nothing -/
def E0h : Hp := fun _ => none
mutual
/-- what the cells of the value need: each list, dict or tuple cell that is read in H and allowed by H0 is so in H', H0' -/
theorem Fr.move {H0 H H0' H' : Hp} (kl : ∀ a xs, H a = some (.lst xs) → H0 a = none → H' a = some (.lst xs) ∧ H0' a = none) (kt : ∀ a xs, H a = some (.tup xs) → H' a = some (.tup xs))
    (kd : ∀ a xs, Rd H a (.dK xs) → H0 a = none → Rd H' a (.dK xs) ∧ H0' a = none) : ∀ {v : V} {d : PyData}, Fr H0 H v d → Fr H0' H' v d
  | _, _, .non => .non
  | _, _, .bl b => .bl b
  | _, _, .int i => .int i
  | _, _, .str x => .str x
  | _, _, .lst h n hs => .lst (kl _ _ h n).1 (kl _ _ h n).2 (FrL.move kl kt kd hs)
  | _, _, .tup h hs => .tup (kt _ _ h) (FrL.move kl kt kd hs)
  | _, _, .dic h n hs => .dic (kd _ _ h n).1 (kd _ _ h n).2 (FrK.move kl kt kd hs)
theorem FrL.move {H0 H H0' H' : Hp} (kl : ∀ a xs, H a = some (.lst xs) → H0 a = none → H' a = some (.lst xs) ∧ H0' a = none) (kt : ∀ a xs, H a = some (.tup xs) → H' a = some (.tup xs))
    (kd : ∀ a xs, Rd H a (.dK xs) → H0 a = none → Rd H' a (.dK xs) ∧ H0' a = none) : ∀ {v : List V} {d : List PyData}, FrL H0 H v d → FrL H0' H' v d
  | _, _, .nil => .nil
  | _, _, .cons h hs => .cons (Fr.move kl kt kd h) (FrL.move kl kt kd hs)
theorem FrK.move {H0 H H0' H' : Hp} (kl : ∀ a xs, H a = some (.lst xs) → H0 a = none → H' a = some (.lst xs) ∧ H0' a = none) (kt : ∀ a xs, H a = some (.tup xs) → H' a = some (.tup xs))
    (kd : ∀ a xs, Rd H a (.dK xs) → H0 a = none → Rd H' a (.dK xs) ∧ H0' a = none) : ∀ {v : List (Key × V)} {d : List (PyData × PyData)}, FrK H0 H v d → FrK H0' H' v d
  | _, _, .nil => .nil
  | _, _, .cons h hs => .cons (Fr.move kl kt kd h) (FrK.move kl kt kd hs)
end
section
variable {H0 H H' G : Hp} {v : V} {d : PyData} {vs : List V} {ds : List PyData} {K : PySem.W.Frag}
theorem rd_same {a : Addr} {u : HO} (h : Rd H a u) (s : Same H H') : Rd H' a u := h.imp (fun e => s _ _ e) fun ⟨o, e⟩ => ⟨o, s _ _ e⟩
theorem Fr.same (h : Fr H0 H v d) (s : Same H H') : Fr H0 H' v d := h.move (fun _ _ e n => ⟨s _ _ e, n⟩) (fun _ _ e => s _ _ e) fun _ _ e n => ⟨rd_same e s, n⟩
theorem FrL.same (h : FrL H0 H vs ds) (s : Same H H') : FrL H0 H' vs ds := h.move (fun _ _ e n => ⟨s _ _ e, n⟩) (fun _ _ e => s _ _ e) fun _ _ e n => ⟨rd_same e s, n⟩
theorem Fr.rp (h : Fr H0 H v d) : Fr E0h H v d := h.move (fun _ _ e _ => ⟨e, rfl⟩) (fun _ _ e => e) fun _ _ e _ => ⟨e, rfl⟩
theorem FrL.rp (h : FrL H0 H vs ds) : FrL E0h H vs ds := h.move (fun _ _ e _ => ⟨e, rfl⟩) (fun _ _ e => e) fun _ _ e _ => ⟨e, rfl⟩
theorem FrL.len : ∀ {vs : List V} {ds : List PyData}, FrL H0 H vs ds → vs.length = ds.length
  | _, _, .nil => rfl
  | _, _, .cons _ hs => congrArg (· + 1) (FrL.len hs)
theorem FrL.app : ∀ {vs us : List V} {ds es : List PyData}, FrL H0 H vs ds → FrL H0 H us es → FrL H0 H (vs ++ us) (ds ++ es)
  | _, _, _, _, .nil, k => k
  | _, _, _, _, .cons h hs, k => .cons h (FrL.app hs k)
theorem FrL.get : ∀ {vs : List V} {ds : List PyData} {i : Nat} {d : PyData}, FrL H0 H vs ds → ds[i]? = some d → ∃ v, vs[i]? = some v ∧ Fr H0 H v d
  | _, _, i, _, .nil, e => by simp at e
  | _, _, 0, _, .cons h _, e => by
    simp at e
    subst e
    exact ⟨_, rfl, h⟩
  | _, _, i + 1, d, .cons _ hs, e => by
    obtain ⟨v, h1, h2⟩ := FrL.get (i := i) hs (by simpa using e)
    exact ⟨v, by simpa using h1, h2⟩
theorem FrL.get' : ∀ {vs : List V} {ds : List PyData} {i : Nat} {v : V}, FrL H0 H vs ds → vs[i]? = some v → ∃ d, ds[i]? = some d ∧ Fr H0 H v d
  | _, _, i, _, .nil, e => by simp at e
  | _, _, 0, _, .cons h _, e => by
    simp at e
    subst e
    exact ⟨_, rfl, h⟩
  | _, _, i + 1, v, .cons _ hs, e => by
    obtain ⟨d, h1, h2⟩ := FrL.get' (i := i) hs (by simpa using e)
    exact ⟨d, by simpa using h1, h2⟩
theorem FrL.set : ∀ {vs : List V} {ds : List PyData} {v : V} {d : PyData} (i : Nat), FrL H0 H vs ds → Fr H0 H v d → FrL H0 H (vs.set i v) (ds.set i d)
  | _, _, _, _, _, .nil, _ => .nil
  | _, _, _, _, 0, .cons _ hs, k => .cons k hs
  | _, _, _, _, i + 1, .cons h hs, k => .cons h (FrL.set i hs k)
theorem FrL.take : ∀ {vs : List V} {ds : List PyData} (n : Nat), FrL H0 H vs ds → FrL H0 H (vs.take n) (ds.take n)
  | _, _, 0, _ => .nil
  | _, _, _ + 1, .nil => .nil
  | _, _, n + 1, .cons h hs => .cons h (FrL.take n hs)
theorem FrL.drop : ∀ {vs : List V} {ds : List PyData} (n : Nat), FrL H0 H vs ds → FrL H0 H (vs.drop n) (ds.drop n)
  | _, _, 0, h => h
  | _, _, _ + 1, .nil => .nil
  | _, _, n + 1, .cons _ hs => FrL.drop n hs
theorem FrL.erase : ∀ {vs : List V} {ds : List PyData} (n : Nat), FrL H0 H vs ds → FrL H0 H (vs.eraseIdx n) (ds.eraseIdx n)
  | _, _, _, .nil => .nil
  | _, _, 0, .cons _ hs => hs
  | _, _, n + 1, .cons h hs => .cons h (FrL.erase n hs)
theorem FrL.rev : ∀ {vs : List V} {ds : List PyData}, FrL H0 H vs ds → FrL H0 H vs.reverse ds.reverse
  | _, _, .nil => .nil
  | _, _, .cons h hs => by
    rw [List.reverse_cons, List.reverse_cons]
    exact (FrL.rev hs).app (.cons h .nil)
theorem FrL.insert : ∀ {vs : List V} {ds : List PyData} {v : V} {d : PyData} (i : Nat), FrL H0 H vs ds → Fr H0 H v d → FrL H0 H (vs.insertIdx i v) (ds.insertIdx i d)
  | _, _, _, _, 0, hs, k => .cons k hs
  | _, _, _, _, _ + 1, .nil, _ => .nil
  | _, _, _, _, i + 1, .cons h hs, k => .cons h (FrL.insert i hs k)
theorem FrL.rep (h : Fr H0 H v d) : ∀ n : Nat, FrL H0 H (List.replicate n v) (List.replicate n d)
  | 0 => .nil
  | n + 1 => .cons h (FrL.rep h n)
mutual
theorem Fr.dp : ∀ {v : V} {d : PyData}, Fr H0 H v d → d.hasDict = false → Dp K H v d
  | _, _, .non, _ => .non
  | _, _, .bl b, _ => .bl b
  | _, _, .int i, _ => .int i
  | _, _, .str x, _ => .str x
  | _, _, .lst h _ hs, e => .lst (SqL.of h) (FrL.dp hs (by simpa only [PyData.hasDict] using e))
  | _, _, .tup h hs, e => .tup (SqT.of h) (FrL.dp hs (by simpa only [PyData.hasDict] using e))
  | _, _, .dic _ _ _, e => by simp [PyData.hasDict] at e
theorem FrL.dp : ∀ {v : List V} {d : List PyData}, FrL H0 H v d → PyData.hasDictAll d = false → DpAll K H v d
  | _, _, .nil, _ => .nil
  | _, _, .cons h hs, e => by
    simp only [PyData.hasDictAll, Bool.or_eq_false_iff] at e
    exact .cons (Fr.dp h e.1) (FrL.dp hs e.2)
end
end
/-- G: what stands and is never written; cs: the objects that are written, with what they hold; ms: those of them that the caller has handed over -/
structure Sep (ms : List Addr) (H0 G H : Hp) (cs : List (Addr × HO)) : Prop where
  sub : ∀ b o, G b = some o → H b = some o
  cel : ∀ c ∈ cs, H c.1 = some c.2 ∧ G c.1 = none ∧ ∀ xs, c.2 ≠ .tup xs
  nd : (cs.map (·.1)).Nodup
  msc : ∀ p ∈ ms, p ∈ cs.map (·.1)
  hms : ∀ p ∈ ms, H0 p ≠ none
  old : ∀ b, H b = none → H0 b = none
  base : ∀ b o, H0 b = some o → b ∉ ms → G b = some o
  tups : ∀ b xs, H b = some (.tup xs) → G b = some (.tup xs)
/-- what a call leaves: G holds what its value needs, and all of H but ms -/
structure Ret (ms : List Addr) (H G H' : Hp) : Prop where
  sub : ∀ b o, G b = some o → H' b = some o
  non : ∀ p ∈ ms, G p = none
  base : ∀ b o, H b = some o → b ∉ ms → G b = some o
  old : ∀ b, H' b = none → H b = none
  tups : ∀ b xs, H' b = some (.tup xs) → G b = some (.tup xs)
section
variable {ms ns : List Addr} {H0 G H H' G1 : Hp} {cs : List (Addr × HO)} {p : Addr} {o o' : HO} {v : V} {d : PyData} {vs : List V} {ds : List PyData}
theorem Sep.start (H : Hp) : Sep [] H H H [] := ⟨fun _ _ e => e, fun _ h => absurd h List.not_mem_nil, List.nodup_nil, fun _ h => absurd h List.not_mem_nil, fun _ h => absurd h List.not_mem_nil, fun _ e => e, fun _ _ e _ => e, fun _ _ e => e⟩
/-- a def's start: the objects that it may write, the rest -/
def hid (H : Hp) (ps : List Addr) : Hp := fun b => if b ∈ ps then none else H b
theorem hid_some {ps : List Addr} {b : Addr} (h : hid H ps b = some o) : b ∉ ps ∧ H b = some o := by
  unfold hid at h
  by_cases c : b ∈ ps
  · rw [if_pos c] at h
    cases h
  · rw [if_neg c] at h
    exact ⟨c, h⟩
theorem hid_in {ps : List Addr} {b : Addr} (h : b ∈ ps) : hid H ps b = none := if_pos h
theorem hid_out {ps : List Addr} {b : Addr} (h : b ∉ ps) : hid H ps b = H b := if_neg h
theorem Sep.startM (H : Hp) (cs : List (Addr × HO)) (h : ∀ c ∈ cs, H c.1 = some c.2 ∧ ∀ xs, c.2 ≠ .tup xs) (nd : (cs.map (·.1)).Nodup) : Sep (cs.map (·.1)) H (hid H (cs.map (·.1))) H cs :=
  { sub := fun _ _ e => (hid_some e).2
    cel := fun c hc => ⟨(h c hc).1, hid_in (List.mem_map_of_mem hc), (h c hc).2⟩
    nd := nd
    msc := fun _ h => h
    hms := fun p hp => by
      obtain ⟨c, hc, rfl⟩ := List.mem_map.mp hp
      rw [(h c hc).1]
      exact fun z => by cases z
    old := fun _ e => e
    base := fun _ _ e n => by rw [hid_out n]; exact e
    tups := fun b xs e => by
      rw [hid_out]
      · exact e
      · intro z
        obtain ⟨c, hc, rfl⟩ := List.mem_map.mp z
        have k := h c hc
        rw [e] at k
        exact k.2 xs (Option.some.inj k.1).symm }
theorem Sep.get (S : Sep ms H0 G H cs) (i : Nat) (h : cs[i]? = some (p, o)) : H p = some o := (S.cel _ (List.mem_of_getElem? h)).1
theorem Sep.gnone (S : Sep ms H0 G H cs) (i : Nat) (h : cs[i]? = some (p, o)) : G p = none := (S.cel _ (List.mem_of_getElem? h)).2.1
theorem Sep.gfree (S : Sep ms H0 G H cs) (h : H p = none) : G p = none := by
  cases e : G p with
  | none => rfl
  | some u =>
    rw [S.sub _ _ e] at h
    cases h
theorem Sep.cne (S : Sep ms H0 G H cs) (h : H p = none) : p ∉ cs.map (·.1) := fun z => by
  obtain ⟨c, hc, rfl⟩ := List.mem_map.mp z
  rw [(S.cel c hc).1] at h
  cases h
theorem Sep.same (S : Sep ms H0 G H cs) : Same G H := S.sub
/-- a new object, never written -/
theorem Sep.sh (S : Sep ms H0 G H cs) (h : H p = none) : Sep ms H0 (upd G p o) (upd H p o) cs where
  sub := fun b u e => by
    by_cases c : b = p
    · subst c
      rw [upd_same] at e ⊢
      exact e
    · rw [upd_ne c] at e ⊢
      exact S.sub b u e
  cel := fun c hc => by
    have n : c.1 ≠ p := fun z => S.cne h (List.mem_map.mpr ⟨c, hc, z⟩)
    rw [upd_ne n, upd_ne n]
    exact S.cel c hc
  nd := S.nd
  msc := S.msc
  hms := S.hms
  old := fun b e => by
    by_cases c : b = p
    · subst c
      exact S.old b h
    · rw [upd_ne c] at e
      exact S.old b e
  base := fun b u e n => by
    have c : b ≠ p := fun z => by
      subst z
      rw [S.old b h] at e
      cases e
    rw [upd_ne c]
    exact S.base b u e n
  tups := fun b xs e => by
    by_cases c : b = p
    · subst c
      rw [upd_same] at e ⊢
      exact e
    · rw [upd_ne c] at e ⊢
      exact S.tups b xs e
/-- a new object that will be written -/
theorem Sep.own (S : Sep ms H0 G H cs) (h : H p = none) (k : ∀ xs, o ≠ .tup xs) : Sep ms H0 G (upd H p o) ((p, o) :: cs) where
  sub := fun b u e => by
    rw [upd_ne (ne_of_none (S.sub b u e) h)]
    exact S.sub b u e
  cel := fun c hc => by
    rcases List.mem_cons.mp hc with rfl | hc
    · exact ⟨upd_same, S.gfree h, k⟩
    · have n : c.1 ≠ p := fun z => S.cne h (List.mem_map.mpr ⟨c, hc, z⟩)
      rw [upd_ne n]
      exact S.cel c hc
  nd := List.nodup_cons.mpr ⟨S.cne h, S.nd⟩
  msc := fun q hq => List.mem_cons_of_mem _ (S.msc q hq)
  hms := S.hms
  old := fun b e => by
    by_cases c : b = p
    · subst c
      exact S.old b h
    · rw [upd_ne c] at e
      exact S.old b e
  base := S.base
  tups := fun b xs e => by
    by_cases c : b = p
    · subst c
      rw [upd_same] at e
      exact absurd (Option.some.inj e) (k xs)
    · rw [upd_ne c] at e
      exact S.tups b xs e
/-- an owned object is written -/
theorem Sep.put (S : Sep ms H0 G H cs) (i : Nat) (h : cs[i]? = some (p, o)) (k : ∀ xs, o' ≠ .tup xs) : Sep ms H0 G (upd H p o') (cs.set i (p, o')) := by
  have il := (List.getElem?_eq_some_iff.mp h).1
  have ie := (List.getElem?_eq_some_iff.mp h).2
  have em : (cs.set i (p, o')).map (·.1) = cs.map (·.1) := by
    rw [List.map_set]
    apply List.ext_getElem?
    intro j
    by_cases c : i = j
    · subst c
      rw [List.getElem?_set_self (by rw [List.length_map]; exact il), List.getElem?_map, h]
      rfl
    · rw [List.getElem?_set_ne c]
  refine ⟨fun b u e => ?_, fun c hc => ?_, by rw [em]; exact S.nd, by rw [em]; exact S.msc, S.hms, fun b e => ?_, S.base, fun b xs e => ?_⟩
  · have n : b ≠ p := fun z => by
      subst z
      rw [S.gnone i h] at e
      cases e
    rw [upd_ne n]
    exact S.sub b u e
  · obtain ⟨j, hj⟩ := List.getElem?_of_mem hc
    by_cases c2 : i = j
    · subst c2
      rw [List.getElem?_set_self il] at hj
      cases hj
      exact ⟨upd_same, S.gnone i h, k⟩
    · rw [List.getElem?_set_ne c2] at hj
      have n : c.1 ≠ p := fun z => by
        have h1 : (cs.map (·.1))[j]? = some p := by rw [List.getElem?_map, hj, ← z]; rfl
        have h2 : (cs.map (·.1))[i]? = some p := by rw [List.getElem?_map, h]; rfl
        exact c2 (nodup_ix S.nd h2 h1)
      rw [upd_ne n]
      exact S.cel c (List.mem_of_getElem? hj)
  · have n : b ≠ p := fun z => by
      subst z
      rw [upd_same] at e
      cases e
    rw [upd_ne n] at e
    exact S.old b e
  · by_cases c : b = p
    · subst c
      rw [upd_same] at e
      exact absurd (Option.some.inj e) (k xs)
    · rw [upd_ne c] at e
      exact S.tups b xs e
/-- an owned object is written no more -/
theorem Sep.fix (S : Sep ms H0 G H cs) (i : Nat) (h : cs[i]? = some (p, o)) (hm : p ∉ ms) : Sep ms H0 (upd G p o) H (cs.eraseIdx i) := by
  have il := (List.getElem?_eq_some_iff.mp h).1
  have hp : p ∉ (cs.eraseIdx i).map (·.1) := by
    have nd := S.nd
    have pm : (cs.map (·.1)).Perm (p :: (cs.eraseIdx i).map (·.1)) := by
      have := (erase_perm h).symm.map (·.1)
      exact this
    exact (List.nodup_cons.mp (pm.nodup_iff.mp nd)).1
  refine ⟨fun b u e => ?_, fun c hc => ?_, ?_, fun q hq => ?_, S.hms, S.old, fun b u e n => ?_, fun b xs e => ?_⟩
  · by_cases c : b = p
    · subst c
      rw [upd_same] at e
      cases e
      exact S.get i h
    · rw [upd_ne c] at e
      exact S.sub b u e
  · have n : c.1 ≠ p := fun z => hp (List.mem_map.mpr ⟨c, hc, z⟩)
    rw [upd_ne n]
    exact S.cel c (List.mem_of_mem_eraseIdx hc)
  · exact S.nd.sublist ((List.eraseIdx_sublist cs i).map _)
  · have n : q ≠ p := fun z => hm (z ▸ hq)
    obtain ⟨c, hc, rfl⟩ := List.mem_map.mp (S.msc q hq)
    have pm := erase_perm h
    rcases List.mem_cons.mp (pm.mem_iff.mpr hc) with z | z
    · exact absurd (by rw [z]) n
    · exact List.mem_map_of_mem z
  · have n2 : b ≠ p := fun z => by
      subst z
      have q := S.gnone i h
      rw [S.base b u e n] at q
      cases q
    rw [upd_ne n2]
    exact S.base b u e n
  · have g := S.tups b xs e
    have n2 : b ≠ p := fun z => by
      subst z
      rw [S.gnone i h] at g
      cases g
    rw [upd_ne n2]
    exact g
theorem Sep.notms (S : Sep ms H0 G H cs) (n : H0 p = none) : p ∉ ms := fun z => S.hms p z n
/-- an owned object is forgotten -/
theorem Sep.drop (S : Sep ms H0 G H cs) (i : Nat) (h : cs[i]? = some (p, o)) (n : H0 p = none) : Sep ms H0 G H (cs.eraseIdx i) where
  sub := S.sub
  cel := fun c hc => S.cel c (List.mem_of_mem_eraseIdx hc)
  nd := S.nd.sublist ((List.eraseIdx_sublist cs i).map _)
  msc := fun q hq => by
    have k : q ≠ p := fun z => S.hms q hq (z ▸ n)
    obtain ⟨c, hc, rfl⟩ := List.mem_map.mp (S.msc q hq)
    rcases List.mem_cons.mp ((erase_perm h).mem_iff.mpr hc) with z | z
    · exact absurd (by rw [z]) k
    · exact List.mem_map_of_mem z
  hms := S.hms
  old := S.old
  base := S.base
  tups := S.tups
theorem same_upd (h : G p = none) : Same G (upd G p o) := sNew h
end
end LQ

/-! What defs compute, as functions that may be undefined (Option): the parts they are made of. -/
namespace LQ
open PySem L2
abbrev LIM : Nat := 100000
theorem lim_le {n : Nat} (h : n ≤ LIM) : n ≤ sizeLine := Nat.le_trans h (by decide)
theorem lim_lt {n : Nat} (h : n < LIM) : n < sizeLine := Nat.lt_of_lt_of_le h (by decide)
theorem bnd {α β : Type} {o : Option α} {f : α → Option β} {r : β} (h : o.bind f = some r) : ∃ x, o = some x ∧ f x = some r := by
  cases o with
  | none => cases h
  | some x => exact ⟨x, rfl, h⟩
theorem cnd {α : Type} {c : Bool} {a b : Option α} {r : α} (h : cond c a b = some r) : (c = true ∧ a = some r) ∨ (c = false ∧ b = some r) := by
  cases c with
  | true => exact Or.inl ⟨rfl, h⟩
  | false => exact Or.inr ⟨rfl, h⟩
theorem grd {α : Type} {c : Bool} {a : Option α} {r : α} (h : cond c a none = some r) : c = true ∧ a = some r := by
  cases c with
  | true => exact ⟨rfl, h⟩
  | false => cases h
theorem som {α : Type} {x y : α} (h : some x = some y) : x = y := Option.some.inj h
/-- how a block ends: it gives r back, goes on, breaks off -/
inductive Ctl (R S : Type) where
  | ret (r : R) | nx (s : S) | bk (s : S)
def loopF {α S : Type} (step : α → S → Option S) : List α → S → Option S
  | [], s => some s
  | x :: xs, s => (step x s).bind (loopF step xs)
def loopC {α R S : Type} (step : α → S → Option (Ctl R S)) : List α → S → Option (Ctl R S)
  | [], s => some (.nx s)
  | x :: xs, s => (step x s).bind fun c => match c with
    | .ret r => some (.ret r)
    | .nx s' => loopC step xs s'
    | .bk s' => some (.nx s')
def whileF {S : Type} (c : S → Option Bool) (b : S → Option S) : Nat → S → Option S
  | 0, _ => none
  | n + 1, s => (c s).bind fun t => cond t ((b s).bind (whileF c b n)) (some s)
def whileC {R S : Type} (c : S → Option Bool) (b : S → Option (Ctl R S)) : Nat → S → Option (Ctl R S)
  | 0, _ => none
  | n + 1, s => (c s).bind fun t => cond t ((b s).bind fun k => match k with
    | .ret r => some (.ret r)
    | .nx s' => whileC c b n s'
    | .bk s' => some (.nx s')) (some (.nx s))
/-- a comprehension, with the state that its parts change -/
def compS {α β S : Type} (f : α → S → Option (Option β × S)) : List α → S → Option (List β × S)
  | [], s => some ([], s)
  | x :: xs, s => (f x s).bind fun p => (compS f xs p.2).bind fun q => some ((match p.1 with | none => q.1 | some y => y :: q.1), q.2)
def compF {α β : Type} (f : α → Option (Option β)) : List α → Option (List β)
  | [] => some []
  | x :: xs => (f x).bind fun p => (compF f xs).bind fun q => some (match p with | none => q | some y => y :: q)
/-! ### numbers -/
def mulF (a b : Int) : Option Int := cond (decide (a.natAbs < 2 ^ 100000) && decide (b.natAbs < 2 ^ 100000)) (some (a * b)) none
def modF (a b : Int) : Option Int := cond (decide (0 < b)) (some (a % b)) none
def divF (a b : Int) : Option Int := cond (decide (0 < b) && decide (b.natAbs < 2 ^ 1000)) (some (a / b)) none
def powF (a b : Int) : Option Int := cond (decide (0 ≤ b) && decide (b ≤ 1000) && decide (a.natAbs < 2 ^ 1000)) (some (a ^ b.toNat)) none
def maxI (a b : Int) : Int := if b > a then b else a
def minI (a b : Int) : Int := if b < a then b else a
def b2I (b : Bool) : Int := if b then 1 else 0
/-! ### lists -/
def ix {α : Type} (l : List α) (i : Int) : Option α := atI l i
def lenI {α : Type} (l : List α) : Int := (l.length : Int)
def appF {α : Type} (l : List α) (x : α) : Option (List α) := cond (decide (l.length < LIM)) (some (l ++ [x])) none
def catF {α : Type} (l m : List α) : Option (List α) := cond (decide (l.length + m.length ≤ LIM)) (some (l ++ m)) none
def repF {α : Type} (l : List α) (k : Int) : Option (List α) := cond (decide (-(2 ^ 63) ≤ k) && decide (k < 2 ^ 63) && decide (l.length * k.toNat ≤ LIM)) (some (List.replicate k.toNat l).flatten) none
def setF {α : Type} (l : List α) (i : Int) (x : α) : Option (List α) := (ixN l.length i).bind fun j => some (l.set j x)
def popF {α : Type} (l : List α) : Option (α × List α) := (l[l.length - 1]?).bind fun x => some (x, l.dropLast)
def popAtF {α : Type} (l : List α) (i : Int) : Option (α × List α) := cond (decide (-(2 ^ 63) ≤ i) && decide (i < 2 ^ 63)) ((seqIndex? i l.length).bind fun k => (l[k]?).bind fun x => some (x, l.eraseIdx k)) none
def cutL {α : Type} (xs : List α) (lo hi : Option Int) : List α := (xs.drop (HT.sIx xs.length 0 lo)).take (HT.sIx xs.length xs.length hi - HT.sIx xs.length 0 lo)
theorem cutL_map {α : Type} (f : α → V) (xs : List α) (lo hi : Option Int) : cutV (xs.map f) lo hi = (cutL xs lo hi).map f := by
  unfold cutV cutL
  rw [List.length_map, List.map_take, List.map_drop]
/-- the numbers from a to below b -/
def rgI (a b : Int) : List Int := (List.range (b - a).toNat).map fun i : Nat => a + (i : Int)
def rngF (a b : Int) : Option (List Int) := cond (decide (-(2 ^ 62) ≤ a) && decide (a < 2 ^ 62) && decide (-(2 ^ 62) ≤ b) && decide (b < 2 ^ 62)) (some (rgI a b)) none
def enumI {α : Type} (l : List α) : List (Int × α) := List.zipWith (fun (i : Nat) x => ((i : Int), x)) (List.range l.length) l
/-! ### texts -/
def lenS (z : Str) : Option Int := cond (decide (z.length ≤ LIM)) (some (z.length : Int)) none
def ixS (z : Str) (i : Int) : Option Str := cond (decide (z.length ≤ LIM)) ((atI z.cps.toList i).bind fun c => some ⟨#[c]⟩) none
def catS (a b : Str) : Option Str := cond (decide (a.length + b.length ≤ LIM)) (some (a ++ b)) none
def ltS (a b : Str) : Bool := decide (a.cps.toList < b.cps.toList)
/-! ### data -/
@[reducible] def eI (i : Int) : PyData := .int i
@[reducible] def eS (s : Str) : PyData := .str s
@[reducible] def eB (b : Bool) : PyData := .bool b
@[reducible] def eN (_ : Unit) : PyData := .none
@[reducible] def eL {α : Type} (f : α → PyData) (l : List α) : PyData := .list (l.map f)
@[reducible] def eT2 {α β : Type} (f : α → PyData) (g : β → PyData) (p : α × β) : PyData := .tuple [f p.1, g p.2]
@[reducible] def eT3 {α β γ : Type} (f : α → PyData) (g : β → PyData) (h : γ → PyData) (p : α × β × γ) : PyData := .tuple [f p.1, g p.2.1, h p.2.2]
@[reducible] def eT1 {α : Type} (f : α → PyData) (p : α) : PyData := .tuple [f p]
def eO {α : Type} (f : α → PyData) : Option α → PyData
  | none => .none
  | some x => f x
@[reducible] def eA (d : PyData) : PyData := d
def vO {α : Type} (f : α → V) : Option α → V
  | none => .non
  | some x => f x
mutual
def flatD : PyData → Bool
  | .list _ => false
  | .dict _ => false
  | .tuple xs => flatDs xs
  | _ => true
def flatDs : List PyData → Bool
  | [] => true
  | x :: xs => flatD x && flatDs xs
end
def isNoneD : PyData → Bool
  | .none => true
  | _ => false
def eqvF (d e : PyData) : Option Bool := cond (SeqAt.shaped d && SeqAt.shaped e && !d.hasDict && !e.hasDict) (some (PyData.eqv d e)) none
def reprF (d : PyData) : Option Str := cond (d.showable && !d.hasDict && decide (d.depth ≤ 20) && decide (d.shown.length ≤ sizeLine)) (some d.shown) none
end LQ

/-! Readings by what is held. -/
namespace LQ
open PySem L2 LX
section
variable {H0 F0 H G : Hp} {v w : V} {d e : PyData} {a : Addr} {vs : List V} {ds : List PyData}
theorem fr_int {i : Int} (f : Fr F0 G v (.int i)) : v = .int i := by cases f; rfl
theorem fr_str {i : Str} (f : Fr F0 G v (.str i)) : v = .str i := by cases f; rfl
theorem fr_bl {i : Bool} (f : Fr F0 G v (.bool i)) : v = .bl i := by cases f; rfl
theorem fr_non (f : Fr F0 G v .none) : v = .non := by cases f; rfl
theorem fr_lst (f : Fr F0 G v (.list ds)) : ∃ a, v = .ref a := by cases f; exact ⟨_, rfl⟩
theorem fr_tup (f : Fr F0 G v (.tuple ds)) : ∃ a, v = .ref a := by cases f; exact ⟨_, rfl⟩
theorem fr_dic {kvs : List (PyData × PyData)} (f : Fr F0 G v (.dict kvs)) : ∃ a, v = .ref a := by cases f; exact ⟨_, rfl⟩
theorem fr_oI {o : Option Int} (f : Fr F0 G v (eO eI o)) : v = vO V.int o := by
  cases o with
  | none => exact fr_non f
  | some x => exact fr_int f
theorem fr_oS {o : Option Str} (f : Fr F0 G v (eO eS o)) : v = vO V.str o := by
  cases o with
  | none => exact fr_non f
  | some x => exact fr_str f
theorem fr_oB {o : Option Bool} (f : Fr F0 G v (eO eB o)) : v = vO V.bl o := by
  cases o with
  | none => exact fr_non f
  | some x => exact fr_bl f
theorem oI_fr (o : Option Int) : Fr F0 G (vO V.int o) (eO eI o) := by
  cases o with
  | none => exact .non
  | some x => exact .int x
theorem oS_fr (o : Option Str) : Fr F0 G (vO V.str o) (eO eS o) := by
  cases o with
  | none => exact .non
  | some x => exact .str x
theorem oB_fr (o : Option Bool) : Fr F0 G (vO V.bl o) (eO eB o) := by
  cases o with
  | none => exact .non
  | some x => exact .bl x
theorem li (f : Fr F0 G (.ref a) (.list ds)) : ∃ vs, G a = some (.lst vs) ∧ FrL F0 G vs ds := by
  cases f with
  | lst h _ hs => exact ⟨_, h, hs⟩
theorem li0 (f : Fr F0 G (.ref a) (.list ds)) : F0 a = none := by
  cases f with
  | lst _ n _ => exact n
theorem tu (f : Fr F0 G (.ref a) (.tuple ds)) : ∃ vs, G a = some (.tup vs) ∧ FrL F0 G vs ds := by
  cases f with
  | tup h hs => exact ⟨_, h, hs⟩
theorem tu1 {d : PyData} (f : Fr F0 G (.ref a) (.tuple [d])) : ∃ v, G a = some (.tup [v]) ∧ Fr F0 G v d := by
  obtain ⟨vs, h, hs⟩ := tu f
  cases hs with
  | cons f1 hs => cases hs; exact ⟨_, h, f1⟩
theorem tu2 {d e : PyData} (f : Fr F0 G (.ref a) (.tuple [d, e])) : ∃ v w, G a = some (.tup [v, w]) ∧ Fr F0 G v d ∧ Fr F0 G w e := by
  obtain ⟨vs, h, hs⟩ := tu f
  cases hs with
  | cons f1 hs => cases hs with
    | cons f2 hs => cases hs; exact ⟨_, _, h, f1, f2⟩
theorem tu3 {d e c : PyData} (f : Fr F0 G (.ref a) (.tuple [d, e, c])) : ∃ v w x, G a = some (.tup [v, w, x]) ∧ Fr F0 G v d ∧ Fr F0 G w e ∧ Fr F0 G x c := by
  obtain ⟨vs, h, hs⟩ := tu f
  cases hs with
  | cons f1 hs => cases hs with
    | cons f2 hs => cases hs with
      | cons f3 hs => cases hs; exact ⟨_, _, _, h, f1, f2, f3⟩
theorem fl1 (f : Fr F0 G v d) : FrL F0 G [v] [d] := .cons f .nil
theorem fl2 {v2 : V} {d2 : PyData} (f : Fr F0 G v d) (f2 : Fr F0 G v2 d2) : FrL F0 G [v, v2] [d, d2] := .cons f (.cons f2 .nil)
theorem fl3 {v2 v3 : V} {d2 d3 : PyData} (f : Fr F0 G v d) (f2 : Fr F0 G v2 d2) (f3 : Fr F0 G v3 d3) : FrL F0 G [v, v2, v3] [d, d2, d3] := .cons f (.cons f2 (.cons f3 .nil))
mutual
theorem Fr.imm : ∀ {v : V} {d : PyData}, Fr F0 G v d → flatD d = true → Fr H0 G v d
  | _, _, .non, _ => .non
  | _, _, .bl b, _ => .bl b
  | _, _, .int i, _ => .int i
  | _, _, .str x, _ => .str x
  | _, _, .lst _ _ _, e => by simp [flatD] at e
  | _, _, .tup h hs, e => .tup h (FrL.imm hs (by simpa only [flatD] using e))
  | _, _, .dic _ _ _, e => by simp [flatD] at e
theorem FrL.imm : ∀ {v : List V} {d : List PyData}, FrL F0 G v d → flatDs d = true → FrL H0 G v d
  | _, _, .nil, _ => .nil
  | _, _, .cons h hs, e => by
    simp only [flatDs, Bool.and_eq_true] at e
    exact .cons (Fr.imm h e.1) (FrL.imm hs e.2)
end
theorem flat_map {α : Type} {f : α → PyData} (h : ∀ x, flatD (f x) = true) : ∀ l : List α, flatDs (l.map f) = true
  | [] => by simp only [List.map_nil, flatDs]
  | x :: l => by simp only [List.map_cons, flatDs, h x, flat_map h l, Bool.and_self]
theorem flI (i : Int) : flatD (eI i) = true := by simp only [flatD]
theorem flS (i : Str) : flatD (eS i) = true := by simp only [flatD]
theorem flB (i : Bool) : flatD (eB i) = true := by simp only [flatD]
theorem flN (i : Unit) : flatD (eN i) = true := by simp only [flatD]
theorem flO {α : Type} {f : α → PyData} (h : ∀ x, flatD (f x) = true) (o : Option α) : flatD (eO f o) = true := by
  cases o with
  | none => simp only [eO, flatD]
  | some x => exact h x
theorem flT1 {α : Type} {f : α → PyData} (h : ∀ x, flatD (f x) = true) (p : α) : flatD (eT1 f p) = true := by simp only [eT1, flatD, flatDs, h, Bool.and_self]
theorem flT2 {α β : Type} {f : α → PyData} {g : β → PyData} (h : ∀ x, flatD (f x) = true) (k : ∀ x, flatD (g x) = true) (p : α × β) : flatD (eT2 f g p) = true := by simp only [eT2, flatD, flatDs, h, k, Bool.and_self]
theorem flT3 {α β γ : Type} {f : α → PyData} {g : β → PyData} {c : γ → PyData} (h : ∀ x, flatD (f x) = true) (k : ∀ x, flatD (g x) = true) (l : ∀ x, flatD (c x) = true) (p : α × β × γ) : flatD (eT3 f g c p) = true := by simp only [eT3, flatD, flatDs, h, k, l, Bool.and_self]
theorem frl_ints {l : List Int} (h : FrL F0 G vs (l.map eI)) : vs = l.map V.int := by
  induction l generalizing vs with
  | nil => cases h; rfl
  | cons x l ih => cases h with
    | cons f hs => rw [List.map_cons, ih hs, fr_int f]
theorem frl_strs {l : List Str} (h : FrL F0 G vs (l.map eS)) : vs = l.map V.str := by
  induction l generalizing vs with
  | nil => cases h; rfl
  | cons x l ih => cases h with
    | cons f hs => rw [List.map_cons, ih hs, fr_str f]
theorem frl_bls {l : List Bool} (h : FrL F0 G vs (l.map eB)) : vs = l.map V.bl := by
  induction l generalizing vs with
  | nil => cases h; rfl
  | cons x l ih => cases h with
    | cons f hs => rw [List.map_cons, ih hs, fr_bl f]
theorem ints_frl (l : List Int) : FrL F0 G (l.map V.int) (l.map eI) := by
  induction l with
  | nil => exact .nil
  | cons x l ih => exact .cons (.int x) ih
theorem strs_frl (l : List Str) : FrL F0 G (l.map V.str) (l.map eS) := by
  induction l with
  | nil => exact .nil
  | cons x l ih => exact .cons (.str x) ih
theorem bls_frl (l : List Bool) : FrL F0 G (l.map V.bl) (l.map eB) := by
  induction l with
  | nil => exact .nil
  | cons x l ih => exact .cons (.bl x) ih
end
section
variable {ms ns : List Addr} {H0 F0 G H H' G1 : Hp} {cs : List (Addr × HO)} {p a b : Addr} {o o' : HO} {v x y : V} {d : PyData} {vs us xs : List V} {ds : List PyData} {K : PySem.W.Frag} {Q : VK} {α β : Type} {e : α → PyData} {l m : List α}
theorem Sep.toRet (S : Sep ms H0 G H cs) : Ret ms H0 G H := ⟨S.sub, fun p hp => by
  obtain ⟨c, hc, rfl⟩ := List.mem_map.mp (S.msc p hp)
  exact (S.cel c hc).2.1, S.base, S.old, S.tups⟩
theorem Sep.ret {cs' : List (Addr × HO)} (S : Sep ms H0 G H cs) (R : Ret ns H G1 H') (hn : ∀ p ∈ ns, p ∈ cs.map (·.1)) (hm : cs'.map (·.1) = cs.map (·.1)) (hc : ∀ c ∈ cs', H' c.1 = some c.2 ∧ ∀ xs, c.2 ≠ .tup xs) :
    ∃ G', Sep ms H0 G' H' cs' ∧ Same G G' ∧ (∀ v d, Fr H G1 v d → Fr H0 G' v d) ∧ ∀ v d, FrL H G1 v d → FrL H0 G' v d := by
  have sG : Same G (hid G1 (cs.map (·.1))) := fun b o e => by
    have n : b ∉ cs.map (·.1) := fun z => by
      obtain ⟨c, hc, rfl⟩ := List.mem_map.mp z
      rw [(S.cel c hc).2.1] at e
      cases e
    rw [hid_out n]
    exact R.base b o (S.sub b o e) fun z => n (hn b z)
  have k1 : ∀ a xs, G1 a = some (.lst xs) → H a = none → hid G1 (cs.map (·.1)) a = some (.lst xs) ∧ H0 a = none := fun a xs e n => ⟨by rw [hid_out (S.cne n)]; exact e, S.old a n⟩
  have k2 : ∀ a xs, G1 a = some (.tup xs) → hid G1 (cs.map (·.1)) a = some (.tup xs) := fun a xs e => by
    rw [hid_out ?_]
    · exact e
    · intro z
      rw [← hm] at z
      obtain ⟨c, hc', rfl⟩ := List.mem_map.mp z
      have := (hc c hc').1
      rw [R.sub _ _ e] at this
      exact (hc c hc').2 xs (Option.some.inj this).symm
  have k3 : ∀ a xs, Rd G1 a (.dK xs) → H a = none → Rd (hid G1 (cs.map (·.1))) a (.dK xs) ∧ H0 a = none := fun a xs e n => ⟨by unfold Rd; rw [hid_out (S.cne n)]; exact e, S.old a n⟩
  refine ⟨hid G1 (cs.map (·.1)), ⟨fun b o e => R.sub b o (hid_some e).2, fun c hc' => ⟨(hc c hc').1, hid_in (by rw [← hm]; exact List.mem_map_of_mem hc'), (hc c hc').2⟩, by rw [hm]; exact S.nd, by rw [hm]; exact S.msc, S.hms, fun b e => S.old b (R.old b e), fun b o e n => sG b o (S.base b o e n), fun b xs e => k2 b xs (R.tups b xs e)⟩, sG, fun v d f => f.move k1 k2 k3, fun v d f => f.move k1 k2 k3⟩
theorem Sep.ret0 (S : Sep ms H0 G H cs) (R : Ret [] H G1 H') : ∃ G', Sep ms H0 G' H' cs ∧ Same G G' ∧ (∀ v d, Fr H G1 v d → Fr H0 G' v d) ∧ ∀ v d, FrL H G1 v d → FrL H0 G' v d :=
  S.ret R (fun _ h => absurd h List.not_mem_nil) rfl fun c hc => ⟨R.sub _ _ (R.base _ _ (S.cel c hc).1 List.not_mem_nil), (S.cel c hc).2.2⟩
theorem map_fst_set {cs : List (Addr × HO)} {i : Nat} (h : cs[i]? = some (p, o)) : (cs.set i (p, o')).map (·.1) = cs.map (·.1) := by
  rw [List.map_set]
  apply List.ext_getElem?
  intro j
  by_cases c : i = j
  · subst c
    rw [List.getElem?_set_self (by rw [List.length_map]; exact (List.getElem?_eq_some_iff.mp h).1), List.getElem?_map, h]
    rfl
  · rw [List.getElem?_set_ne c]
theorem Sep.ret1 (S : Sep ms H0 G H cs) (i : Nat) (h : cs[i]? = some (p, o)) (R : Ret [p] H G1 H') (hp : H' p = some o') (k : ∀ xs, o' ≠ .tup xs) :
    ∃ G', Sep ms H0 G' H' (cs.set i (p, o')) ∧ Same G G' ∧ (∀ v d, Fr H G1 v d → Fr H0 G' v d) ∧ ∀ v d, FrL H G1 v d → FrL H0 G' v d := by
  refine S.ret R (fun q hq => ?_) (map_fst_set h) fun c hc => ?_
  · rw [List.mem_singleton.mp hq]
    exact List.mem_map.mpr ⟨_, List.mem_of_getElem? h, rfl⟩
  · by_cases z : c.1 = p
    · obtain ⟨j, hj⟩ := List.getElem?_of_mem hc
      have il := (List.getElem?_eq_some_iff.mp h).1
      have e : i = j := by
        have h1 : ((cs.set i (p, o')).map (·.1))[j]? = some p := by rw [List.getElem?_map, hj, ← z]; rfl
        rw [map_fst_set h] at h1
        exact nodup_ix S.nd (by rw [List.getElem?_map, h]; rfl) h1
      subst e
      rw [List.getElem?_set_self il] at hj
      cases hj
      exact ⟨hp, k⟩
    · have hc2 : c ∈ cs := by
        rcases List.mem_or_eq_of_mem_set hc with q | q
        · exact q
        · exact absurd (by rw [q]) z
      exact ⟨R.sub _ _ (R.base _ _ (S.cel c hc2).1 fun q => z (List.mem_singleton.mp q)), (S.cel c hc2).2.2⟩
/-- an owned list, read -/
theorem Sep.rd (S : Sep ms H0 G H cs) (i : Nat) (h : cs[i]? = some (p, .lst vs)) (f : FrL F0 G vs ds) : Fr E0h H (.ref p) (.list ds) := .lst (S.get i h) rfl ((f.rp).same S.sub)
theorem Sep.hidS (S : Sep ms H0 G H cs) (h : ∀ p ∈ ns, G p = none) : Same G (hid H ns) := fun b o e => by
  rw [hid_out]
  · exact S.sub b o e
  · intro z
    rw [h b z] at e
    cases e
theorem lst_tup {vs : List V} : ∀ xs, HO.lst vs ≠ .tup xs := fun _ z => by cases z
theorem dk_tup {vs : List (Key × V)} : ∀ xs, HO.dK vs ≠ .tup xs := fun _ z => by cases z
theorem Sep.ne (S : Sep ms H0 G H cs) {i j : Nat} (hi : cs[i]? = some (p, o)) (hj : cs[j]? = some (b, o')) (n : i ≠ j) : p ≠ b := fun z => by
  subst z
  exact n (nodup_ix S.nd (show (cs.map (·.1))[i]? = some p by rw [List.getElem?_map, hi]; rfl) (by rw [List.getElem?_map, hj]; rfl))
/-! ### new objects -/
def zTup (xs : List V) (H : Hp) (Q : VK) : Prop := xs.length ≤ sizeLine ∧ ∀ p, H p = none → Q (.ref p) (upd H p (.tup xs))
def zLst (xs : List V) (H : Hp) (Q : VK) : Prop := xs.length ≤ sizeLine ∧ ∀ p, H p = none → Q (.ref p) (upd H p (.lst xs))
def zNew (xs : List V) (H : Hp) (Q : VK) : Prop := ∀ p, H p = none → Q (.ref p) (upd H p (.lst xs))
theorem rd_tupZ {tr : TA} {σ : L2.St} (q : tr σ H fun xs H1 => zTup xs H1 Q) : tTup tr σ H Q := q
theorem rd_lstZ {tr : TA} {σ : L2.St} (q : tr σ H fun xs H1 => zLst xs H1 Q) : tLst tr σ H Q := q
theorem q_tup (S : Sep ms H0 G H cs) (z : xs.length ≤ LIM) (f : FrL F0 G xs ds) (q : ∀ p G' H', Sep ms H0 G' H' cs → Same G G' → Fr F0 G' (.ref p) (.tuple ds) → Q (.ref p) H') : zTup xs H Q :=
  ⟨lim_le z, fun p hp => q p _ _ (S.sh hp) (sNew (S.gfree hp)) (.tup upd_same (f.same (sNew (S.gfree hp))))⟩
theorem q_lst (S : Sep ms H0 G H cs) (z : xs.length ≤ LIM) (f : FrL F0 G xs ds) (hF : ∀ b, H b = none → F0 b = none) (q : ∀ p G' H', Sep ms H0 G' H' cs → Same G G' → Fr F0 G' (.ref p) (.list ds) → Q (.ref p) H') : zLst xs H Q :=
  ⟨lim_le z, fun p hp => q p _ _ (S.sh hp) (sNew (S.gfree hp)) (.lst upd_same (hF p hp) (f.same (sNew (S.gfree hp))))⟩
theorem q_lstO (S : Sep ms H0 G H cs) (z : xs.length ≤ LIM) (q : ∀ p H', Sep ms H0 G H' ((p, .lst xs) :: cs) → H0 p = none → Q (.ref p) H') : zLst xs H Q :=
  ⟨lim_le z, fun p hp => q p _ (S.own hp lst_tup) (S.old p hp)⟩
/-- what a rule leaves that makes a new list of what is held -/
theorem q_new (S : Sep ms H0 G H cs) (f : FrL F0 G xs ds) (hF : ∀ b, H b = none → F0 b = none) (q : ∀ p G' H', Sep ms H0 G' H' cs → Same G G' → Fr F0 G' (.ref p) (.list ds) → Q (.ref p) H') : zNew xs H Q :=
  fun p hp => q p _ _ (S.sh hp) (sNew (S.gfree hp)) (.lst upd_same (hF p hp) (f.same (sNew (S.gfree hp))))
theorem q_newO (S : Sep ms H0 G H cs) (q : ∀ p H', Sep ms H0 G H' ((p, .lst xs) :: cs) → H0 p = none → Q (.ref p) H') : zNew xs H Q :=
  fun p hp => q p _ (S.own hp lst_tup) (S.old p hp)
/-- an owned list becomes one that is only read -/
theorem Sep.fixL (S : Sep ms H0 G H cs) (i : Nat) (h : cs[i]? = some (p, .lst vs)) (hm : p ∉ ms) (f : FrL H0 G vs ds) (n : H0 p = none) : ∃ G', Sep ms H0 G' H (cs.eraseIdx i) ∧ Same G G' ∧ Fr H0 G' (.ref p) (.list ds) :=
  ⟨_, S.fix i h hm, sNew (S.gnone i h), .lst upd_same n (f.same (sNew (S.gnone i h)))⟩
/-! ### lists -/
theorem ix_get {l : List α} {i : Int} {x : α} (h : ix l i = some x) (f : FrL F0 G vs (l.map e)) : ∃ v, atI vs i = some v ∧ Fr F0 G v (e x) := by
  unfold ix atI at h
  obtain ⟨j, h1, h2⟩ := Option.bind_eq_some_iff.mp h
  obtain ⟨v, h3, h4⟩ := f.get (i := j) (d := e x) (by rw [List.getElem?_map, h2]; rfl)
  refine ⟨v, ?_, h4⟩
  unfold atI
  rw [f.len, List.length_map, h1]
  exact h3
theorem q_ixL {i : Int} {x : α} (ha : H a = some (.lst vs)) (f : FrL F0 G vs (l.map e)) (h : ix l i = some x) (q : ∀ v, Fr F0 G v (e x) → Q v H) : rIxL K (.ref a) (.int i) H Q := by
  obtain ⟨v, h1, h2⟩ := ix_get h f
  exact rd_ixL ha h1 (q v h2)
theorem frl_cut {lo hi : Option Int} (f : FrL F0 G vs (l.map e)) : FrL F0 G (cutV vs lo hi) ((cutL l lo hi).map e) := by
  unfold cutV cutL
  rw [f.len, List.length_map, List.map_take, List.map_drop]
  exact (f.drop _).take _
theorem q_slL {lo hi : Option Int} (S : Sep ms H0 G H cs) (ha : H a = some (.lst vs)) (f : FrL F0 G vs (l.map e)) (hF : ∀ b, H b = none → F0 b = none) (q : ∀ p G' H', Sep ms H0 G' H' cs → Same G G' → Fr F0 G' (.ref p) (eL e (cutL l lo hi)) → Q (.ref p) H') : rSlL K (.ref a) lo hi H Q :=
  rd_slL ha (q_new S (frl_cut f) hF q)
theorem q_slLO {lo hi : Option Int} (S : Sep ms H0 G H cs) (ha : H a = some (.lst vs)) (f : FrL F0 G vs (l.map e)) (q : ∀ p us H', Sep ms H0 G H' ((p, .lst us) :: cs) → H0 p = none → FrL F0 G us ((cutL l lo hi).map e) → Q (.ref p) H') : rSlL K (.ref a) lo hi H Q :=
  rd_slL ha (q_newO S fun p H' S' n => q p _ H' S' n (frl_cut f))
theorem q_len (ha : H a = some (.lst vs)) (f : FrL F0 G vs (l.map e)) (q : Q (.int (lenI l)) H) : qLen K [.ref a] H Q := by
  refine rd_len ha ?_
  rw [f.len, List.length_map]
  exact q
theorem q_list (S : Sep ms H0 G H cs) (ha : H a = some (.lst vs)) (f : FrL F0 G vs ds) (hF : ∀ b, H b = none → F0 b = none) (q : ∀ p G' H', Sep ms H0 G' H' cs → Same G G' → Fr F0 G' (.ref p) (.list ds) → Q (.ref p) H') : qList K [.ref a] H Q :=
  rd_listOf ha (q_new S f hF q)
theorem q_listO (S : Sep ms H0 G H cs) (ha : H a = some (.lst vs)) (q : ∀ p H', Sep ms H0 G H' ((p, .lst vs) :: cs) → H0 p = none → Q (.ref p) H') : qList K [.ref a] H Q :=
  rd_listOf ha (q_newO S q)
theorem cat_ok {l m r : List α} (h : catF l m = some r) : l.length + m.length ≤ LIM ∧ r = l ++ m := by
  unfold catF at h
  obtain ⟨h1, h2⟩ := grd h
  exact ⟨of_decide_eq_true h1, (som h2).symm⟩
theorem q_cat {r : List α} (S : Sep ms H0 G H cs) (ha : H a = some (.lst vs)) (f : FrL F0 G vs (l.map e)) (hb : H b = some (.lst us)) (f2 : FrL F0 G us (m.map e)) (h : catF l m = some r) (hF : ∀ b, H b = none → F0 b = none)
    (q : ∀ p G' H', Sep ms H0 G' H' cs → Same G G' → Fr F0 G' (.ref p) (eL e r) → Q (.ref p) H') : rCat (.ref a) (.ref b) H Q := by
  obtain ⟨h1, rfl⟩ := cat_ok h
  refine rd_cat ha hb (lim_le (by rw [f.len, f2.len, List.length_map, List.length_map]; exact h1)) (q_new S ?_ hF q)
  rw [List.map_append]
  exact f.app f2
theorem q_catO {r : List α} (S : Sep ms H0 G H cs) (ha : H a = some (.lst vs)) (f : FrL F0 G vs (l.map e)) (hb : H b = some (.lst us)) (f2 : FrL F0 G us (m.map e)) (h : catF l m = some r)
    (q : ∀ p ws H', Sep ms H0 G H' ((p, .lst ws) :: cs) → H0 p = none → FrL F0 G ws (r.map e) → Q (.ref p) H') : rCat (.ref a) (.ref b) H Q := by
  obtain ⟨h1, rfl⟩ := cat_ok h
  refine rd_cat ha hb (lim_le (by rw [f.len, f2.len, List.length_map, List.length_map]; exact h1)) (q_newO S fun p H' S' n => q p _ H' S' n ?_)
  rw [List.map_append]
  exact f.app f2
theorem frl_rep {k : Nat} (f : FrL F0 G vs (l.map e)) : FrL F0 G (List.replicate k vs).flatten ((List.replicate k l).flatten.map e) := by
  induction k with
  | zero => exact .nil
  | succ k ih =>
    rw [List.replicate_succ, List.replicate_succ, List.flatten_cons, List.flatten_cons, List.map_append]
    exact f.app ih
theorem q_repN {r : List α} {k : Int} (S : Sep ms H0 G H cs) (ha : H a = some (.lst vs)) (f : FrL F0 G vs (l.map e)) (h : repF l k = some r) (q : ∀ p, H p = none → FrL F0 G (List.replicate k.toNat vs).flatten (r.map e) → Q (.ref p) (upd H p (.lst (List.replicate k.toNat vs).flatten))) : rRep (.ref a) (.int k) H Q := by
  unfold repF at h
  obtain ⟨h1, h2⟩ := grd h
  rw [Bool.and_eq_true, Bool.and_eq_true, decide_eq_true_iff, decide_eq_true_iff, decide_eq_true_iff] at h1
  obtain ⟨⟨h3, h4⟩, h5⟩ := h1
  refine ⟨a, k, vs, rfl, rfl, ha, h3, h4, lim_le (by rw [f.len, List.length_map]; exact h5), fun p hp => q p hp ?_⟩
  rw [← som h2]
  exact frl_rep f
theorem q_rep {r : List α} {k : Int} (S : Sep ms H0 G H cs) (ha : H a = some (.lst vs)) (f : FrL F0 G vs (l.map e)) (h : repF l k = some r) (hF : ∀ b, H b = none → F0 b = none)
    (q : ∀ p G' H', Sep ms H0 G' H' cs → Same G G' → Fr F0 G' (.ref p) (eL e r) → Q (.ref p) H') : rRep (.ref a) (.int k) H Q :=
  q_repN S ha f h fun p hp f2 => q_new S f2 hF q p hp
theorem q_repO {r : List α} {k : Int} (S : Sep ms H0 G H cs) (ha : H a = some (.lst vs)) (f : FrL F0 G vs (l.map e)) (h : repF l k = some r)
    (q : ∀ p ws H', Sep ms H0 G H' ((p, .lst ws) :: cs) → H0 p = none → FrL F0 G ws (r.map e) → Q (.ref p) H') : rRep (.ref a) (.int k) H Q :=
  q_repN S ha f h fun p hp f2 => q_newO S (fun p H' S' n => q p _ H' S' n f2) p hp
/-! ### changes of owned lists -/
theorem q_app {r : List α} {x : α} (S : Sep ms H0 G H cs) (i : Nat) (hi : cs[i]? = some (a, .lst vs)) (f : FrL F0 G vs (l.map e)) (fy : Fr F0 G y (e x)) (h : appF l x = some r)
    (q : ∀ us H', Sep ms H0 G H' (cs.set i (a, .lst us)) → FrL F0 G us (r.map e) → Q .non H') : rAppend (.ref a) [y] H Q := by
  unfold appF at h
  obtain ⟨h1, h2⟩ := grd h
  refine ⟨a, vs, y, rfl, rfl, S.get i hi, lim_lt (by rw [f.len, List.length_map]; exact of_decide_eq_true h1), q _ _ (S.put i hi lst_tup) ?_⟩
  rw [← som h2, List.map_append]
  exact f.app (.cons fy .nil)
theorem q_pop {r : List α} {x : α} (S : Sep ms H0 G H cs) (i : Nat) (hi : cs[i]? = some (a, .lst vs)) (f : FrL F0 G vs (l.map e)) (h : popF l = some (x, r))
    (q : ∀ y us H', Sep ms H0 G H' (cs.set i (a, .lst us)) → FrL F0 G us (r.map e) → Fr F0 G y (e x) → Q y H') : rPop (.ref a) [] H Q := by
  unfold popF at h
  obtain ⟨z, h1, h2⟩ := bnd h
  cases h2
  obtain ⟨w, h3, h4⟩ := f.get (i := l.length - 1) (d := e x) (by rw [List.getElem?_map, h1]; rfl)
  refine ⟨a, vs, w, rfl, rfl, S.get i hi, by rw [f.len, List.length_map]; exact h3, q w _ _ (S.put i hi lst_tup) ?_ h4⟩
  rw [List.dropLast_eq_take, List.dropLast_eq_take, f.len, List.length_map, List.map_take]
  exact f.take _
theorem q_popAt {r : List α} {x : α} {j : Int} (S : Sep ms H0 G H cs) (i : Nat) (hi : cs[i]? = some (a, .lst vs)) (f : FrL F0 G vs (l.map e)) (h : popAtF l j = some (x, r))
    (q : ∀ y us H', Sep ms H0 G H' (cs.set i (a, .lst us)) → FrL F0 G us (r.map e) → Fr F0 G y (e x) → Q y H') : rPopAt (.ref a) [.int j] H Q := by
  unfold popAtF at h
  obtain ⟨h0, h⟩ := grd h
  rw [Bool.and_eq_true, decide_eq_true_iff, decide_eq_true_iff] at h0
  obtain ⟨k, h1, h⟩ := bnd h
  obtain ⟨z, h2, h3⟩ := bnd h
  cases h3
  obtain ⟨w, h4, h5⟩ := f.get (i := k) (d := e x) (by rw [List.getElem?_map, h2]; rfl)
  refine ⟨a, vs, j, k, w, rfl, rfl, S.get i hi, h0.1, h0.2, by rw [f.len, List.length_map]; exact h1, h4, q w _ _ (S.put i hi lst_tup) ?_ h5⟩
  rw [← erase_map]
  exact f.erase _
theorem q_setL {r : List α} {x : α} {j : Int} {R : Hp → Prop} (S : Sep ms H0 G H cs) (i : Nat) (hi : cs[i]? = some (a, .lst vs)) (f : FrL F0 G vs (l.map e)) (fy : Fr F0 G y (e x)) (h : setF l j x = some r)
    (q : ∀ us H', Sep ms H0 G H' (cs.set i (a, .lst us)) → FrL F0 G us (r.map e) → R H') : rSetL (.ref a) (.int j) y H R := by
  unfold setF at h
  obtain ⟨k, h1, h2⟩ := bnd h
  cases h2
  refine rd_setL (S.get i hi) (j := k) (by rw [f.len, List.length_map]; exact h1) (q _ _ (S.put i hi lst_tup) ?_)
  rw [List.map_set]
  exact f.set _ fy
theorem q_rev (S : Sep ms H0 G H cs) (i : Nat) (hi : cs[i]? = some (a, .lst vs)) (f : FrL F0 G vs (l.map e))
    (q : ∀ us H', Sep ms H0 G H' (cs.set i (a, .lst us)) → FrL F0 G us (l.reverse.map e) → Q .non H') : rReverse (.ref a) [] H Q := by
  refine ⟨a, vs, rfl, rfl, S.get i hi, q _ _ (S.put i hi lst_tup) ?_⟩
  rw [List.map_reverse]
  exact f.rev
theorem q_clear (S : Sep ms H0 G H cs) (i : Nat) (hi : cs[i]? = some (a, .lst vs))
    (q : ∀ H', Sep ms H0 G H' (cs.set i (a, .lst [])) → Q .non H') : rClear (.ref a) [] H Q :=
  ⟨a, vs, rfl, rfl, S.get i hi, q _ (S.put i hi lst_tup)⟩
theorem q_ext {r : List α} (S : Sep ms H0 G H cs) (i : Nat) (hi : cs[i]? = some (a, .lst vs)) (f : FrL F0 G vs (l.map e)) (hb : H b = some (.lst us)) (f2 : FrL F0 G us (m.map e)) (h : catF l m = some r)
    (q : ∀ ws H', Sep ms H0 G H' (cs.set i (a, .lst ws)) → FrL F0 G ws (r.map e) → Q .non H') : rExtend (.ref a) [.ref b] H Q := by
  obtain ⟨h1, rfl⟩ := cat_ok h
  refine ⟨a, b, vs, us, rfl, rfl, S.get i hi, hb, lim_le (by rw [f.len, f2.len, List.length_map, List.length_map]; exact h1), q _ _ (S.put i hi lst_tup) ?_⟩
  rw [List.map_append]
  exact f.app f2
/-! ### numbers -/
theorem q_mulW {i j k : Int} (h : mulF i j = some k) (q : Q (.int k) H) : rI CMulW (fun i j => .int (i * j)) (.int i) (.int j) H Q := by
  unfold mulF at h
  obtain ⟨h1, h2⟩ := grd h
  rw [Bool.and_eq_true, decide_eq_true_iff, decide_eq_true_iff] at h1
  cases som h2
  exact ⟨i, j, rfl, rfl, wide_mul h1.1 h1.2 (by decide) (by decide) (by decide), q⟩
theorem q_mod {i j k : Int} (h : modF i j = some k) (q : Q (.int k) H) : rI (fun _ j => 0 < j) (fun i j => .int (i % j)) (.int i) (.int j) H Q := by
  unfold modF at h
  obtain ⟨h1, h2⟩ := grd h
  cases som h2
  exact ⟨i, j, rfl, rfl, of_decide_eq_true h1, q⟩
theorem q_div {i j k : Int} (h : divF i j = some k) (q : Q (.int k) H) : rI CDivW (fun i j => .int (i / j)) (.int i) (.int j) H Q := by
  unfold divF at h
  obtain ⟨h1, h2⟩ := grd h
  rw [Bool.and_eq_true, decide_eq_true_iff, decide_eq_true_iff] at h1
  cases som h2
  exact ⟨i, j, rfl, rfl, wide_div h1.1 h1.2 (by decide) (by decide), q⟩
theorem q_pow {i j k : Int} (h : powF i j = some k) (q : Q (.int k) H) : rI CPowW (fun i j => .int (i ^ j.toNat)) (.int i) (.int j) H Q := by
  unfold powF at h
  obtain ⟨h1, h2⟩ := grd h
  rw [Bool.and_eq_true, Bool.and_eq_true, decide_eq_true_iff, decide_eq_true_iff, decide_eq_true_iff] at h1
  cases som h2
  exact ⟨i, j, rfl, rfl, ⟨h1.1.1, h1.1.2, h1.2⟩, q⟩
theorem q_eqI {i j : Int} (q : Q (.bl (decide (i = j))) H) : rEq (.int i) (.int j) H Q := by
  refine ⟨rfl, ?_⟩
  rw [dec_int]
  exact q
end
end LQ

/-! Loops and comprehensions by what they compute. -/
namespace LQ
open PySem L2 LX
section
variable {ms : List Addr} {H0 F0 G H H1 H' : Hp} {cs : List (Addr × HO)} {D : Ends} {σ : L2.St} {g : TG} {tb : TS} {J : It} {Gd : Hp → Prop} {Y : Nat → Hp → V → Hp → Prop} {α β S R : Type} {K : PySem.W.Frag}
/-- the reading of a for over J -/
abbrev ForG (J : It) (g : TG) (tb : TS) (D : Ends) (σ : L2.St) (H : Hp) : Prop := ∃ W : Nat → Nat → L2.St → Hp → Prop, (∃ m, W 0 m σ H) ∧ ∀ i m σ H, W i m σ H →
  (J.stop i H ∧ D.nx σ H) ∨ (J.go i H ∧ ∃ N : L2.St → Hp → Prop, (∀ σ' H', N σ' H' → ∃ m', m' < m ∧ W (i + 1) m' σ' H') ∧ ∀ x H', J.yld i H x H' → g x σ H' fun σ2 H2 => tb { D with nx := N, ct := N, bk := D.nx } σ2 H2)
theorem loopF_drop {step : α → S → Option S} {xs : List α} {i : Nat} {a : α} {s r : S} (hi : xs[i]? = some a) (h : loopF step (xs.drop i) s = some r) : ∃ s', step a s = some s' ∧ loopF step (xs.drop (i + 1)) s' = some r := by
  rw [drop_of hi] at h
  exact bnd h
theorem loopC_drop {step : α → S → Option (Ctl R S)} {xs : List α} {i : Nat} {a : α} {s : S} {r : Ctl R S} (hi : xs[i]? = some a) (h : loopC step (xs.drop i) s = some r) :
    ∃ c, step a s = some c ∧ (∀ q, c = .ret q → r = .ret q) ∧ (∀ s', c = .nx s' → loopC step (xs.drop (i + 1)) s' = some r) ∧ (∀ s', c = .bk s' → r = .nx s') := by
  rw [drop_of hi] at h
  obtain ⟨c, h1, h2⟩ := bnd h
  refine ⟨c, h1, fun q e => ?_, fun s' e => ?_, fun s' e => ?_⟩
  · subst e
    exact (som h2).symm
  · subst e
    exact h2
  · subst e
    exact (som h2).symm
/-- a for whose body neither gives back nor breaks off -/
theorem q_forF {step : α → S → Option S} {xs : List α} {s0 r : S} (hf : loopF step xs s0 = some r) (w : Walk J xs.length Gd Y) (Pv : S → L2.St → Hp → Prop) (h0 : Pv s0 σ H) (hG : ∀ s σ H, Pv s σ H → Gd H)
    (hs : ∀ i a s s' x σ H H', xs[i]? = some a → step a s = some s' → Pv s σ H → Y i H x H' → g x σ H' fun σ2 H2 => tb { D with nx := Pv s', ct := Pv s', bk := D.nx } σ2 H2) (hd : ∀ σ H, Pv r σ H → D.nx σ H) : ForG J g tb D σ H := by
  refine ⟨fun i m σ H => m = xs.length - i ∧ i ≤ xs.length ∧ ∃ s, loopF step (xs.drop i) s = some r ∧ Pv s σ H, ⟨_, rfl, Nat.zero_le _, s0, hf, h0⟩, ?_⟩
  rintro i m σ H ⟨rfl, hi, s, hl, p⟩
  have q := hG s σ H p
  by_cases hlt : i < xs.length
  · obtain ⟨s', h1, h2⟩ := loopF_drop (List.getElem?_eq_getElem hlt) hl
    refine .inr ⟨w.goes i H hlt q, Pv s', fun σ' H' p' => ⟨xs.length - (i + 1), by omega, rfl, hlt, s', h2, p'⟩, fun x H' y => hs i _ s s' x σ H H' (List.getElem?_eq_getElem hlt) h1 p (w.yields i H x H' hlt q y)⟩
  · have e : i = xs.length := by omega
    subst e
    rw [List.drop_length] at hl
    cases hl
    exact .inl ⟨w.stops H q, hd σ H p⟩
/-- a for whose body may give back or break off -/
theorem q_forC {step : α → S → Option (Ctl R S)} {xs : List α} {s0 : S} {out : Ctl R S} (hf : loopC step xs s0 = some out) (w : Walk J xs.length Gd Y) (Pv : S → L2.St → Hp → Prop) (h0 : Pv s0 σ H) (hG : ∀ s σ H, Pv s σ H → Gd H)
    (hs : ∀ i a s c x σ H H', xs[i]? = some a → step a s = some c → Pv s σ H → Y i H x H' → (∀ q, c = .ret q → out = .ret q) → (∀ s' σ H, c = .bk s' → Pv s' σ H → D.nx σ H) →
      g x σ H' fun σ2 H2 => tb { D with nx := fun σ H => ∃ s', c = .nx s' ∧ Pv s' σ H, ct := fun σ H => ∃ s', c = .nx s' ∧ Pv s' σ H, bk := D.nx } σ2 H2)
    (hd : ∀ s σ H, out = .nx s → Pv s σ H → D.nx σ H) : ForG J g tb D σ H := by
  refine ⟨fun i m σ H => m = xs.length - i ∧ i ≤ xs.length ∧ ∃ s, loopC step (xs.drop i) s = some out ∧ Pv s σ H, ⟨_, rfl, Nat.zero_le _, s0, hf, h0⟩, ?_⟩
  rintro i m σ H ⟨rfl, hi, s, hl, p⟩
  have q := hG s σ H p
  by_cases hlt : i < xs.length
  · obtain ⟨c, h1, h2, h3, h4⟩ := loopC_drop (List.getElem?_eq_getElem hlt) hl
    refine .inr ⟨w.goes i H hlt q, fun σ H => ∃ s', c = .nx s' ∧ Pv s' σ H, fun σ' H' ⟨s', e, p'⟩ => ⟨xs.length - (i + 1), by omega, rfl, hlt, s', h3 s' e, p'⟩, fun x H' y => ?_⟩
    exact hs i _ s c x σ H H' (List.getElem?_eq_getElem hlt) h1 p (w.yields i H x H' hlt q y) h2 fun s' σ H e p' => hd s' σ H (h4 s' e) p'
  · have e : i = xs.length := by omega
    subst e
    rw [List.drop_length] at hl
    cases hl
    exact .inl ⟨w.stops H q, hd s σ H rfl p⟩
/-- while, neither giving back nor breaking off -/
theorem q_whileF {c : S → Option Bool} {b : S → Option S} {n : Nat} {s0 r : S} {tc : TT} (hf : whileF c b n s0 = some r) (Pv : S → L2.St → Hp → Prop) (h0 : Pv s0 σ H)
    (hc : ∀ s t σ H, c s = some t → Pv s σ H → ∀ Q : Bool → Hp → Prop, (∀ H', Pv s σ H' → Q t H') → tc σ H Q)
    (hs : ∀ s s' σ H, b s = some s' → c s = some true → Pv s σ H → tb { D with nx := Pv s', ct := Pv s', bk := D.nx } σ H) (hd : ∀ σ H, Pv r σ H → D.nx σ H) : tWhile tc tb D σ H := by
  refine ⟨fun m σ H => ∃ s, whileF c b m s = some r ∧ Pv s σ H, ⟨n, s0, hf, h0⟩, ?_⟩
  rintro m σ H ⟨s, hl, p⟩
  cases m with
  | zero => cases hl
  | succ m =>
    obtain ⟨t, h1, h2⟩ := bnd hl
    refine hc s t σ H h1 p _ fun H' p' => ?_
    rcases cnd h2 with ⟨rfl, h3⟩ | ⟨rfl, h3⟩
    · obtain ⟨s', h4, h5⟩ := bnd h3
      exact iteT ⟨Pv s', fun σ' H' p2 => ⟨m, Nat.lt_succ_self m, s', h5, p2⟩, hs s s' σ H' h4 h1 p'⟩
    · cases h3
      exact iteF (hd σ H' p')
theorem q_whileC {c : S → Option Bool} {b : S → Option (Ctl R S)} {n : Nat} {s0 : S} {out : Ctl R S} {tc : TT} (hf : whileC c b n s0 = some out) (Pv : S → L2.St → Hp → Prop) (h0 : Pv s0 σ H)
    (hc : ∀ s t σ H, c s = some t → Pv s σ H → ∀ Q : Bool → Hp → Prop, (∀ H', Pv s σ H' → Q t H') → tc σ H Q)
    (hs : ∀ s k σ H, b s = some k → c s = some true → Pv s σ H → (∀ q, k = .ret q → out = .ret q) → (∀ s' σ H, k = .bk s' → Pv s' σ H → D.nx σ H) →
      tb { D with nx := fun σ H => ∃ s', k = .nx s' ∧ Pv s' σ H, ct := fun σ H => ∃ s', k = .nx s' ∧ Pv s' σ H, bk := D.nx } σ H) (hd : ∀ s σ H, out = .nx s → Pv s σ H → D.nx σ H) : tWhile tc tb D σ H := by
  refine ⟨fun m σ H => ∃ s, whileC c b m s = some out ∧ Pv s σ H, ⟨n, s0, hf, h0⟩, ?_⟩
  rintro m σ H ⟨s, hl, p⟩
  cases m with
  | zero => cases hl
  | succ m =>
    obtain ⟨t, h1, h2⟩ := bnd hl
    refine hc s t σ H h1 p _ fun H' p' => ?_
    rcases cnd h2 with ⟨rfl, h3⟩ | ⟨rfl, h3⟩
    · obtain ⟨k, h4, h5⟩ := bnd h3
      refine iteT ⟨fun σ H => ∃ s', k = .nx s' ∧ Pv s' σ H, fun σ' H' ⟨s', e, p2⟩ => ⟨m, Nat.lt_succ_self m, s', ?_, p2⟩, hs s k σ H' h4 h1 p' (fun q e => ?_) fun s' σ H e p2 => hd s' σ H ?_ p2⟩
      · subst e
        exact h5
      · subst e
        exact (som h5).symm
      · subst e
        exact (som h5).symm
    · cases h3
      exact iteF (hd s σ H' rfl p')
/-- the reading of a comprehension over J -/
abbrev LcG (J : It) (g : TG) (tt : TT) (te : TE) (vs : List Nat) (σ : L2.St) (H1 : Hp) (D : Addr) (Qd : Hp → Prop) : Prop := ∃ W : Nat → Nat → Hp → Prop, (∃ m, W 0 m (upd H1 D (.lst []))) ∧ ∀ i m H, W i m H →
  (J.stop i H ∧ Qd H) ∨ (J.go i H ∧ ∃ Nx : Hp → Prop, (∀ H', Nx H' → ∃ m', m' < m ∧ W (i + 1) m' H') ∧ ∀ x H', J.yld i H x H' → g x (wipe σ vs) H' fun σ2 H2 => wipe σ2 vs = wipe σ vs ∧ tt σ2 H2 fun b H3 =>
    if b = true then te σ2 H3 fun y H4 => ∃ acc, H4 D = some (.lst acc) ∧ acc.length < sizeLine ∧ Nx (upd H4 D (.lst (acc ++ [y]))) else Nx H3)
theorem compS_len {f : α → S → Option (Option β × S)} : ∀ {xs : List α} {s s' : S} {ys : List β}, compS f xs s = some (ys, s') → ys.length ≤ xs.length
  | [], s, s', ys, h => by
    cases h
    exact Nat.le_refl _
  | x :: xs, s, s', ys, h => by
    obtain ⟨p, h1, h2⟩ := bnd h
    obtain ⟨q, h3, h4⟩ := bnd h2
    have := compS_len (ys := q.1) (s' := q.2) h3
    cases h4
    cases p.1 with
    | none =>
      show q.1.length ≤ _
      rw [List.length_cons]
      omega
    | some y =>
      show (y :: q.1).length ≤ _
      rw [List.length_cons, List.length_cons]
      omega
theorem compS_drop {f : α → S → Option (Option β × S)} {xs : List α} {i : Nat} {a : α} {s s' : S} {ys : List β} (hi : xs[i]? = some a) (h : compS f (xs.drop i) s = some (ys, s')) :
    ∃ o s1 zs, f a s = some (o, s1) ∧ compS f (xs.drop (i + 1)) s1 = some (zs, s') ∧ ys = (match o with | none => zs | some y => y :: zs) := by
  rw [drop_of hi] at h
  obtain ⟨p, h1, h2⟩ := bnd h
  obtain ⟨q, h3, h4⟩ := bnd h2
  cases h4
  exact ⟨p.1, p.2, q.1, h1, h3, rfl⟩
/-- a comprehension, with the state that it changes -/
theorem q_lcS {f : α → S → Option (Option β × S)} {xs : List α} {ys : List β} {s0 s1 : S} {enc : β → PyData} {c : S → List (Addr × HO)} {A : Addr} {Qd : Hp → Prop} {tt : TT} {te : TE} {vs : List Nat}
    (hf : compS f xs s0 = some (ys, s1)) (hz : xs.length ≤ LIM) (w : Walk J xs.length Gd Y) (S0 : Sep ms H0 G H (c s0)) (hA : H A = none) (hF : ∀ b, H b = none → F0 b = none)
    (hg : ∀ s G' H' acc, Sep ms H0 G' H' ((A, .lst acc) :: c s) → Same G G' → Gd H')
    (hs : ∀ i x a s o s' G1 H1 H2 acc, xs[i]? = some a → f a s = some (o, s') → Sep ms H0 G1 H1 ((A, .lst acc) :: c s) → Same G G1 → Y i H1 x H2 →
      ∀ (T : V → Hp → Prop) (F : Hp → Prop), (∀ y b G' H', o = some b → Sep ms H0 G' H' ((A, .lst acc) :: c s') → Same G1 G' → Fr F0 G' y (enc b) → T y H') → (∀ G' H', o = none → Sep ms H0 G' H' ((A, .lst acc) :: c s') → Same G1 G' → F H') →
      g x (wipe σ vs) H2 fun σ2 H2 => wipe σ2 vs = wipe σ vs ∧ tt σ2 H2 fun b H3 => if b = true then te σ2 H3 T else F H3)
    (hd : ∀ G' H' us, Sep ms H0 G' H' ((A, .lst us) :: c s1) → Same G G' → FrL F0 G' us (ys.map enc) → H0 A = none → F0 A = none → Qd H') : LcG J g tt te vs σ H A Qd := by
  have yl := compS_len hf
  refine ⟨fun i m H' => m = xs.length - i ∧ i ≤ xs.length ∧ ∃ s zs acc ws G', compS f (xs.drop i) s = some (zs, s1) ∧ ys = ws ++ zs ∧ Sep ms H0 G' H' ((A, .lst acc) :: c s) ∧ Same G G' ∧ FrL F0 G' acc (ws.map enc),
    ⟨_, rfl, Nat.zero_le _, s0, ys, [], [], G, hf, rfl, S0.own hA lst_tup, Same.refl _, .nil⟩, ?_⟩
  rintro i m H1 ⟨rfl, hi, s, zs, acc, ws, G1, hl, rfl, S1, s1', fa⟩
  have q := hg s G1 H1 acc S1 s1'
  by_cases hlt : i < xs.length
  · obtain ⟨o, s2, zs2, h1, h2, h3⟩ := compS_drop (List.getElem?_eq_getElem hlt) hl
    refine .inr ⟨w.goes i H1 hlt q, fun H' => ∃ s zs acc ws' G', compS f (xs.drop (i + 1)) s = some (zs, s1) ∧ ws ++ (match o with | none => zs2 | some y => y :: zs2) = ws' ++ zs ∧ Sep ms H0 G' H' ((A, .lst acc) :: c s) ∧ Same G G' ∧ FrL F0 G' acc (ws'.map enc), ?_, ?_⟩
    · rintro H' ⟨s, zs3, acc', ws', G', k1, k2, k3, k4, k5⟩
      exact ⟨xs.length - (i + 1), by omega, rfl, hlt, s, zs3, acc', ws', G', k1, by rw [h3]; exact k2, k3, k4, k5⟩
    · intro x H2 y
      refine hs i x _ s o s2 G1 H1 H2 acc (List.getElem?_eq_getElem hlt) h1 S1 s1' (w.yields i H1 x H2 hlt q y) _ _ (fun y b G' H' e S' sG fy => ?_) fun G' H' e S' sG => ?_
      · subst e
        have la : acc.length < sizeLine := by
          rw [fa.len, List.length_map]
          refine lim_lt ?_
          rw [h3] at yl
          simp only [List.length_append, List.length_cons] at yl
          omega
        refine ⟨acc, S'.get 0 rfl, la, s2, zs2, acc ++ [y], ws ++ [b], G', h2, by rw [List.append_assoc]; rfl, S'.put 0 rfl lst_tup, s1'.trans sG, ?_⟩
        rw [List.map_append]
        exact (fa.same sG).app (.cons fy .nil)
      · subst e
        exact ⟨s2, zs2, acc, ws, G', h2, rfl, S', s1'.trans sG, fa.same sG⟩
  · have e : i = xs.length := by omega
    subst e
    rw [List.drop_length] at hl
    cases hl
    rw [List.append_nil] at hd
    exact .inl ⟨w.stops H1 q, hd G1 H1 acc S1 s1' fa (S0.old A hA) (hF A hA)⟩
theorem compF_S {f : α → Option (Option β)} : ∀ {xs : List α} {ys : List β}, compF f xs = some ys → compS (fun a (_ : Unit) => (f a).bind fun o => some (o, ())) xs () = some (ys, ())
  | [], ys, h => by
    cases h
    rfl
  | x :: xs, ys, h => by
    obtain ⟨p, h1, h2⟩ := bnd h
    obtain ⟨q, h3, h4⟩ := bnd h2
    cases h4
    show ((f x).bind fun o => some (o, ())).bind _ = _
    rw [h1]
    show (compS _ xs ()).bind _ = _
    rw [compF_S h3]
    rfl
theorem q_lc {f : α → Option (Option β)} {xs : List α} {ys : List β} {enc : β → PyData} {A : Addr} {Qd : Hp → Prop} {tt : TT} {te : TE} {vs : List Nat}
    (hf : compF f xs = some ys) (hz : xs.length ≤ LIM) (w : Walk J xs.length Gd Y) (S0 : Sep ms H0 G H cs) (hA : H A = none) (hF : ∀ b, H b = none → F0 b = none)
    (hg : ∀ G' H' acc, Sep ms H0 G' H' ((A, .lst acc) :: cs) → Same G G' → Gd H')
    (hs : ∀ i x a o G1 H1 H2 acc, xs[i]? = some a → f a = some o → Sep ms H0 G1 H1 ((A, .lst acc) :: cs) → Same G G1 → Y i H1 x H2 →
      ∀ (T : V → Hp → Prop) (F : Hp → Prop), (∀ y b G' H', o = some b → Sep ms H0 G' H' ((A, .lst acc) :: cs) → Same G1 G' → Fr F0 G' y (enc b) → T y H') → (∀ G' H', o = none → Sep ms H0 G' H' ((A, .lst acc) :: cs) → Same G1 G' → F H') →
      g x (wipe σ vs) H2 fun σ2 H2 => wipe σ2 vs = wipe σ vs ∧ tt σ2 H2 fun b H3 => if b = true then te σ2 H3 T else F H3)
    (hd : ∀ G' H' us, Sep ms H0 G' H' ((A, .lst us) :: cs) → Same G G' → FrL F0 G' us (ys.map enc) → H0 A = none → F0 A = none → Qd H') : LcG J g tt te vs σ H A Qd := by
  refine q_lcS (c := fun _ => cs) (compF_S hf) hz w S0 hA hF (fun _ => hg) (fun i x a s o s' G1 H1 H2 acc hi ho => ?_) hd
  obtain ⟨p, h1, h2⟩ := bnd ho
  cases h2
  exact hs i x a _ G1 H1 H2 acc hi h1
end
/-! ### what is walked -/
section
variable {F0 H0 G H : Hp} {a b : Addr} {vs us : List V} {α β : Type} {e : α → PyData} {e2 : β → PyData} {l : List α} {m : List β} {K : PySem.W.Frag} {ms : List Addr} {cs : List (Addr × HO)}
theorem rgI_len (a b : Int) : (rgI a b).length = (b - a).toNat := by
  unfold rgI
  rw [List.length_map, List.length_range]
theorem rgI_get {a b : Int} {i : Nat} {x : Int} (h : (rgI a b)[i]? = some x) : x = a + i := by
  unfold rgI at h
  rw [List.getElem?_map] at h
  obtain ⟨j, h1, h2⟩ := Option.map_eq_some_iff.mp h
  have := List.getElem?_eq_some_iff.mp h1
  obtain ⟨h3, h4⟩ := this
  rw [List.getElem_range] at h4
  rw [← h2, h4]
/-- a range by ones -/
theorem w_rng (lo hi : Int) : Walk (Itr lo (hi - lo).toNat) (rgI lo hi).length (fun _ => True) (YFn fun i => .int (lo + i)) := by
  rw [rgI_len]
  exact walk_range
theorem w_list (f : FrL F0 G vs (l.map e)) : Walk (Itl K a) l.length (fun H => H a = some (.lst vs)) (YAt vs) := by
  have h : l.length = vs.length := by rw [f.len, List.length_map]
  rw [h]
  exact walk_list.mono (fun _ h => SqL.of h) fun _ _ _ _ _ _ y => y
theorem w_tup (f : FrL F0 G vs (l.map e)) : Walk (Itt K a) l.length (fun H => H a = some (.tup vs)) (YAt vs) := by
  have h : l.length = vs.length := by rw [f.len, List.length_map]
  rw [h]
  exact walk_tup.mono (fun _ h => SqT.of h) fun _ _ _ _ _ _ y => y
theorem w_enum (f : FrL F0 G vs (l.map e)) : Walk (Ite K a) l.length (fun H => H a = some (.lst vs)) (YPair (fun i => some (.int (i : Nat))) (fun i => vs[i]?)) := by
  have h : l.length = vs.length := by rw [f.len, List.length_map]
  rw [h]
  exact walk_enum.mono (fun _ h => SqL.of h) fun _ _ _ _ _ _ y => y
theorem w_str (z : Str) : Walk (Its z) (z.cps.toList.map fun c => (⟨#[c]⟩ : Str)).length (fun _ => True) (fun i H v H' => H' = H ∧ ∃ c, z.cps[i]? = some c ∧ v = .str ⟨#[c]⟩) := by
  have h : (z.cps.toList.map fun c => (⟨#[c]⟩ : Str)).length = z.cps.size := by rw [List.length_map, Array.length_toList]
  rw [h]
  exact walk_str
theorem frl_at {i : Nat} {x : α} {v : V} (f : FrL F0 G vs (l.map e)) (hx : l[i]? = some x) (hv : vs[i]? = some v) : Fr F0 G v (e x) := by
  obtain ⟨w, h1, h2⟩ := f.get (i := i) (d := e x) (by rw [List.getElem?_map, hx]; rfl)
  rw [hv] at h1
  cases h1
  exact h2
theorem enumI_len (l : List α) : (enumI l).length = l.length := by
  unfold enumI
  rw [List.length_zipWith, List.length_range, Nat.min_self]
theorem enumI_get {i : Nat} {p : Int × α} (h : (enumI l)[i]? = some p) : p.1 = (i : Int) ∧ l[i]? = some p.2 := by
  unfold enumI at h
  rw [List.getElem?_zipWith] at h
  obtain ⟨hl, _⟩ : i < l.length ∧ True := by
    refine ⟨?_, trivial⟩
    by_cases c : i < l.length
    · exact c
    · rw [List.getElem?_eq_none (l := List.range l.length) (by rw [List.length_range]; omega)] at h
      simp at h
  rw [List.getElem?_range hl, List.getElem?_eq_getElem hl] at h
  simp only [Option.some.injEq] at h
  rw [← h]
  exact ⟨rfl, List.getElem?_eq_getElem hl⟩
end
end LQ

/-! What gen2 writes. -/
namespace LQ
open PySem L2 LX
def ctlK {R S β : Type} (k : Ctl R S) (fr : R → Option β) (fn : S → Option β) : Option β := match k with
  | .ret r => fr r
  | .nx s => fn s
  | .bk _ => none
def fuelW : Nat := 100000
/-- a comprehension over a list that is not too long -/
def compL {α β : Type} (f : α → Option (Option β)) (l : List α) : Option (List β) := cond (decide (l.length ≤ LIM)) (compF f l) none
def chars (z : Str) : List Str := z.cps.toList.map fun c => (⟨#[c]⟩ : Str)
def zipL {α β : Type} (l : List α) (m : List β) : List (α × β) := l.zip m
def repSF (z : Str) (n : Int) : Option Str := cond (decide (0 ≤ n) && decide (n ≤ 1000) && decide (z.length ≤ 1000)) (some (repS z n.toNat)) none
def sliceS (z : Str) (lo hi : Option Int) : Option Str := cond (decide (z.length ≤ LIM)) (some (cutS z lo hi)) none
/-- one sign in a text -/
def inSF (c z : Str) : Option Bool := match c.cps.toList with
  | [k] => some (decide (k ∈ z.cps.toList))
  | _ => none
def lrgF (a b : Int) : Option (List Int) := cond (decide (-(2 ^ 62) ≤ a) && decide (a < 2 ^ 62) && decide (-(2 ^ 62) ≤ b) && decide (b < 2 ^ 62) && decide ((b - a).toNat ≤ LIM)) (some (rgI a b)) none
def joinF (a : Str) (ys : List Str) : Option Str := cond (decide ((ys.map (·.length)).sum + ys.length * a.length ≤ 16777216)) (some (Txt.join a ys)) none
def insF {α : Type} (l : List α) (i : Int) (x : α) : Option (List α) := cond (decide (l.length < LIM) && decide (0 ≤ i) && decide (i < 2 ^ 63)) (some (l.take i.toNat ++ [x] ++ l.drop i.toNat)) none
def sortI (l : List Int) : List Int := l.mergeSort
section
variable {σ σ' : L2.St} {H H1 G G' : Hp} {Q : VK} {v w x y : V} {i : Nat} {t : TT} {te : TE} {D : Ends} {A B : Prop} {b b1 b2 : Bool}
theorem rd_varE (e : σ[i]? = some (some v)) (h : v = w) (q : Q w H) : tVar i σ H Q := ⟨v, e, h ▸ q⟩
theorem rd_nameS {R : L2.St → Hp → Prop} (e : σ.set i (some v) = σ') (q : R σ' H) : gName i v σ H R := by
  subst e
  exact q
theorem rd_setS {R : L2.St → Hp → Prop} {s : L2.St} (e : s = σ') (q : R σ' H) : R s H := by
  subst e
  exact q
theorem rd_twoS {v w : V} {i j : Nat} (e : (σ.set i (some v)).set j (some w) = σ') (q : D.nx σ' H) : ∃ a b, [v, w] = [a, b] ∧ D.nx ((σ.set i (some a)).set j (some b)) H := by
  subst e
  exact ⟨v, w, rfl, q⟩
theorem rd_mk {f ct bk : L2.St → Hp → Prop} {rt : VK} (q : f σ H) : (Ends.mk f rt bk ct).nx σ H := q
theorem rd_ttM {QB : Bool → Hp → Prop} (M : Bool → Hp → Prop) (h1 : ∀ R : Bool → Hp → Prop, (∀ x H1, M x H1 → R x H1) → t σ H R) (h2 : ∀ x H1, M x H1 → QB x H1) : t σ H QB := h1 _ h2
theorem ite_by (h1 : b = true → A) (h2 : b = false → B) : if b = true then A else B := by
  cases b with
  | true => exact L2.iteT (h1 rfl)
  | false => exact L2.iteF (h2 rfl)
theorem iteY (h : b = true) (q : A) : if b = true then A else B := by
  rw [if_pos h]
  exact q
theorem iteN (h : b = false) (q : B) : if b = true then A else B := by
  rw [if_neg (by rw [h]; decide)]
  exact q
theorem andT {x y : Bool} (h : b = true) (e : x = y) : x = (b && y) := by rw [h, e, Bool.true_and]
theorem andF {y : Bool} (h : b = false) : false = (b && y) := by rw [h, Bool.false_and]
theorem orT {y : Bool} (h : b = true) : true = (b || y) := by rw [h, Bool.true_or]
theorem orF {x y : Bool} (h : b = false) (e : x = y) : x = (b || y) := by rw [h, e, Bool.false_or]
def zIsN : R2 := fun x y H Q => y = V.non ∧ Q (.bl (decide (x = .non))) H
def zNotN : R2 := fun x y H Q => y = V.non ∧ Q (.bl (!decide (x = .non))) H
theorem kisN {X : Cx} : OpR X (compareOp .Is) zIsN := op_isN
theorem knotN {X : Cx} : OpR X (compareOp .IsNot) zNotN := op_notN
def zLenS : List V → Hp → VK → Prop := fun xs H Q => ∃ z, xs = [.str z] ∧ z.length ≤ sizeLine ∧ Q (.int z.length) H
theorem klenS {X : Cx} : CallR X (.builtin "len") zLenS := call_len_str
def zMax2 : List V → Hp → VK → Prop := fun xs H Q => ∃ i j, xs = [.int i, .int j] ∧ Q (.int (if j > i then j else i)) H
def zMin2 : List V → Hp → VK → Prop := fun xs H Q => ∃ i j, xs = [.int i, .int j] ∧ Q (.int (if j < i then j else i)) H
theorem kmax2 {X : Cx} (hc : X.calm = true) : CallR X (.builtin "max") zMax2 := call_max2 hc
theorem kmin2 {X : Cx} (hc : X.calm = true) : CallR X (.builtin "min") zMin2 := call_min2 hc
def zInt1 : List V → Hp → VK → Prop := fun xs H Q => (∃ i, xs = [.int i] ∧ Q (.int i) H) ∨ ∃ k, xs = [.bl k] ∧ Q (.int (if k then 1 else 0)) H
theorem kint1 {X : Cx} : CallR X (.type "int") zInt1 := call_int1
def zAddS : R2 := fun x y H Q => ∃ i j, x = .str i ∧ y = .str j ∧ i.length + j.length ≤ sizeLine ∧ Q (.str (i ++ j)) H
theorem kaddS {X : Cx} : OpR X (binaryOp .Add) zAddS := op_add_str
theorem kiaddS {X : Cx} : OpR X (inplaceOp .Add) zAddS := iop_add_str
theorem q_isN {t : Bool} (h : decide (x = V.non) = t) (q : Q (.bl t) H) : zIsN x .non H Q := ⟨rfl, by rw [h]; exact q⟩
theorem q_notN {t : Bool} (h : decide (x = V.non) = t) (q : Q (.bl (!t)) H) : zNotN x .non H Q := ⟨rfl, by rw [h]; exact q⟩
theorem isO {α : Type} {f : α → V} (hf : ∀ a, f a ≠ .non) (o : Option α) : decide (vO f o = V.non) = o.isNone := by
  cases o with
  | none => rfl
  | some a => exact decide_eq_false (hf a)
theorem q_isNI {o : Option Int} (q : Q (.bl o.isNone) H) : zIsN (vO V.int o) .non H Q := q_isN (isO (fun _ z => by cases z) o) q
theorem q_isNS {o : Option Str} (q : Q (.bl o.isNone) H) : zIsN (vO V.str o) .non H Q := q_isN (isO (fun _ z => by cases z) o) q
theorem q_isNB {o : Option Bool} (q : Q (.bl o.isNone) H) : zIsN (vO V.bl o) .non H Q := q_isN (isO (fun _ z => by cases z) o) q
theorem q_notNI {o : Option Int} (q : Q (.bl (!o.isNone)) H) : zNotN (vO V.int o) .non H Q := q_notN (isO (fun _ z => by cases z) o) q
theorem q_notNS {o : Option Str} (q : Q (.bl (!o.isNone)) H) : zNotN (vO V.str o) .non H Q := q_notN (isO (fun _ z => by cases z) o) q
theorem q_notNB {o : Option Bool} (q : Q (.bl (!o.isNone)) H) : zNotN (vO V.bl o) .non H Q := q_notN (isO (fun _ z => by cases z) o) q
theorem isNo {α : Type} {e : α → PyData} {o : Option α} {F0 : Hp} (f : Fr F0 G v (eO e o)) (he : ∀ a, isNoneD (e a) = false) : decide (v = V.non) = o.isNone := by
  cases o with
  | none =>
    rw [fr_non f]
    rfl
  | some a =>
    refine decide_eq_false fun z => ?_
    subst z
    have h := he a
    change Fr F0 G .non (e a) at f
    generalize e a = d at f h
    cases f
    cases h
theorem isAny {d : PyData} {F0 : Hp} (f : Fr F0 G v d) : decide (v = V.non) = isNoneD d := by
  cases f <;> first | rfl | exact decide_eq_false fun z => by cases z
theorem q_neI {i j : Int} (q : Q (.bl (!decide (i = j))) H) : rNe (.int i) (.int j) H Q := by
  refine ⟨rfl, ?_⟩
  rw [dec_int]
  exact q
theorem dec_strV {i j : Str} : decide (V.str i = V.str j) = decide (i = j) := by
  by_cases h : i = j
  · rw [decide_eq_true h, decide_eq_true (congrArg V.str h)]
  · rw [decide_eq_false h, decide_eq_false fun z => h (V.str.inj z)]
theorem dec_blV {i j : Bool} : decide (V.bl i = V.bl j) = decide (i = j) := by
  by_cases h : i = j
  · rw [decide_eq_true h, decide_eq_true (congrArg V.bl h)]
  · rw [decide_eq_false h, decide_eq_false fun z => h (V.bl.inj z)]
theorem q_eqS {i j : Str} (q : Q (.bl (decide (i = j))) H) : rEq (.str i) (.str j) H Q := ⟨rfl, by rw [dec_strV]; exact q⟩
theorem q_neS {i j : Str} (q : Q (.bl (!decide (i = j))) H) : rNe (.str i) (.str j) H Q := ⟨rfl, by rw [dec_strV]; exact q⟩
theorem q_eqB {i j : Bool} (q : Q (.bl (decide (i = j))) H) : rEq (.bl i) (.bl j) H Q := ⟨rfl, by rw [dec_blV]; exact q⟩
theorem q_neB {i j : Bool} (q : Q (.bl (!decide (i = j))) H) : rNe (.bl i) (.bl j) H Q := ⟨rfl, by rw [dec_blV]; exact q⟩
theorem dec_vO {α : Type} [DecidableEq α] {f : α → V} (hf : ∀ a, f a ≠ .non) (hi : ∀ a b, f a = f b → a = b) (o p : Option α) : decide (vO f o = vO f p) = decide (o = p) := by
  cases o with
  | none =>
    cases p with
    | none => rfl
    | some b =>
      show decide (V.non = f b) = _
      rw [decide_eq_false (fun z => hf b z.symm), decide_eq_false (fun z => by cases z)]
  | some a =>
    cases p with
    | none =>
      show decide (f a = V.non) = _
      rw [decide_eq_false (hf a), decide_eq_false (fun z => by cases z)]
    | some b =>
      by_cases h : a = b
      · subst h
        rw [decide_eq_true rfl, decide_eq_true rfl]
      · show decide (f a = f b) = _
        rw [decide_eq_false fun z => h (hi a b z), decide_eq_false fun z => h (Option.some.inj z)]
theorem scal_vOS (o p : Option Str) : scal (vO V.str o) (vO V.str p) = true := by cases o <;> cases p <;> rfl
theorem scal_vOI (o p : Option Int) : scal (vO V.int o) (vO V.int p) = true := by cases o <;> cases p <;> rfl
theorem q_eqOS {o p : Option Str} (q : Q (.bl (decide (o = p))) H) : rEq (vO V.str o) (vO V.str p) H Q := ⟨scal_vOS o p, by rw [dec_vO (fun _ z => by cases z) (fun _ _ z => V.str.inj z)]; exact q⟩
theorem q_neOS {o p : Option Str} (q : Q (.bl (!decide (o = p))) H) : rNe (vO V.str o) (vO V.str p) H Q := ⟨scal_vOS o p, by rw [dec_vO (fun _ z => by cases z) (fun _ _ z => V.str.inj z)]; exact q⟩
theorem q_eqOI {o p : Option Int} (q : Q (.bl (decide (o = p))) H) : rEq (vO V.int o) (vO V.int p) H Q := ⟨scal_vOI o p, by rw [dec_vO (fun _ z => by cases z) (fun _ _ z => V.int.inj z)]; exact q⟩
theorem q_neOI {o p : Option Int} (q : Q (.bl (!decide (o = p))) H) : rNe (vO V.int o) (vO V.int p) H Q := ⟨scal_vOI o p, by rw [dec_vO (fun _ z => by cases z) (fun _ _ z => V.int.inj z)]; exact q⟩
theorem eqv_ok {d e : PyData} {b : Bool} (h : eqvF d e = some b) : SeqAt.shaped d = true ∧ SeqAt.shaped e = true ∧ d.hasDict = false ∧ e.hasDict = false ∧ PyData.eqv d e = b := by
  unfold eqvF at h
  obtain ⟨h1, h2⟩ := grd h
  rw [Bool.and_eq_true, Bool.and_eq_true, Bool.and_eq_true, Bool.not_eq_true', Bool.not_eq_true'] at h1
  exact ⟨h1.1.1.1, h1.1.1.2, h1.1.2, h1.2, som h2⟩
theorem q_eqD {K : PySem.W.Frag} {F0 F1 : Hp} {d e : PyData} (f : Fr F0 H x d) (g : Fr F1 H y e) (h : eqvF d e = some b) (q : Q (.bl b) H) : rEqD K x y H Q := by
  obtain ⟨h1, h2, h3, h4, h5⟩ := eqv_ok h
  exact ⟨d, e, f.dp h3, g.dp h4, h1, h2, by rw [h5]; exact q⟩
theorem q_neD {K : PySem.W.Frag} {F0 F1 : Hp} {d e : PyData} (f : Fr F0 H x d) (g : Fr F1 H y e) (h : eqvF d e = some b) (q : Q (.bl (!b)) H) : rNeD K x y H Q := by
  obtain ⟨h1, h2, h3, h4, h5⟩ := eqv_ok h
  exact ⟨d, e, f.dp h3, g.dp h4, h1, h2, by rw [h5]; exact q⟩
theorem flat_ints (l : List Int) : (l.map V.int).all flatV = true := by
  rw [List.all_map]
  exact List.all_eq_true.mpr fun _ _ => rfl
theorem flat_strs (l : List Str) : (l.map V.str).all flatV = true := by
  rw [List.all_map]
  exact List.all_eq_true.mpr fun _ _ => rfl
theorem inV_ints (i : Int) (l : List Int) : inV (.int i) (l.map V.int) = decide (i ∈ l) := by
  unfold inV
  rw [List.any_map]
  by_cases h : i ∈ l
  · rw [decide_eq_true h]
    exact List.any_eq_true.mpr ⟨i, h, by simp [Function.comp, eqV]⟩
  · rw [decide_eq_false h]
    refine Bool.eq_false_iff.mpr fun z => h ?_
    obtain ⟨k, h1, h2⟩ := List.any_eq_true.mp z
    simp [Function.comp, eqV] at h2
    exact h2 ▸ h1
theorem inV_strs (i : Str) (l : List Str) : inV (.str i) (l.map V.str) = decide (i ∈ l) := by
  unfold inV
  rw [List.any_map]
  by_cases h : i ∈ l
  · rw [decide_eq_true h]
    exact List.any_eq_true.mpr ⟨i, h, by simp [Function.comp, eqV]⟩
  · rw [decide_eq_false h]
    refine Bool.eq_false_iff.mpr fun z => h ?_
    obtain ⟨k, h1, h2⟩ := List.any_eq_true.mp z
    simp [Function.comp, eqV] at h2
    exact h2 ▸ h1
section
variable {K : PySem.W.Frag} {F0 : Hp} {a : Addr} {vs : List V}
theorem q_inI {i : Int} {l : List Int} (h : H a = some (.lst vs)) (f : FrL F0 G vs (l.map eI)) (q : Q (.bl (decide (i ∈ l))) H) : rIn K false (.int i) (.ref a) H Q := by
  rw [frl_ints f] at h
  exact rd_isin h rfl (flat_ints l) (inV_ints i l) q
theorem q_niI {i : Int} {l : List Int} (h : H a = some (.lst vs)) (f : FrL F0 G vs (l.map eI)) (q : Q (.bl (!decide (i ∈ l))) H) : rIn K true (.int i) (.ref a) H Q := by
  rw [frl_ints f] at h
  exact rd_notin h rfl (flat_ints l) (inV_ints i l) q
theorem q_inS {i : Str} {l : List Str} (h : H a = some (.lst vs)) (f : FrL F0 G vs (l.map eS)) (q : Q (.bl (decide (i ∈ l))) H) : rIn K false (.str i) (.ref a) H Q := by
  rw [frl_strs f] at h
  exact rd_isin h rfl (flat_strs l) (inV_strs i l) q
theorem q_niS {i : Str} {l : List Str} (h : H a = some (.lst vs)) (f : FrL F0 G vs (l.map eS)) (q : Q (.bl (!decide (i ∈ l))) H) : rIn K true (.str i) (.ref a) H Q := by
  rw [frl_strs f] at h
  exact rd_notin h rfl (flat_strs l) (inV_strs i l) q
theorem inS_ok {c z : Str} (h : inSF c z = some b) : ∃ k, c = ⟨#[k]⟩ ∧ b = decide (k ∈ z.cps.toList) := by
  unfold inSF at h
  split at h
  · rename_i k hk
    refine ⟨k, ?_, (som h).symm⟩
    obtain ⟨a⟩ := c
    congr 1
    apply Array.toList_inj.mp
    exact hk
  · cases h
theorem q_inT {c z : Str} (h : inSF c z = some b) (q : Q (.bl b) H) : rInT false (.str c) (.str z) H Q := by
  obtain ⟨k, rfl, rfl⟩ := inS_ok h
  exact ⟨k, z, rfl, rfl, q⟩
theorem q_niT {c z : Str} (h : inSF c z = some b) (q : Q (.bl (!b)) H) : rInT true (.str c) (.str z) H Q := by
  obtain ⟨k, rfl, rfl⟩ := inS_ok h
  exact ⟨k, z, rfl, rfl, q⟩
theorem q_truL {α : Type} {e : α → PyData} {l : List α} {R : Bool → Prop} (h : H a = some (.lst vs)) (f : FrL F0 G vs (l.map e)) (q : R (!l.isEmpty)) : ∃ k, TruV K (.ref a) H k ∧ R k := by
  refine rd_truL h ?_
  have e1 : vs.isEmpty = l.isEmpty := by
    have := f.len
    rw [List.length_map] at this
    cases l <;> cases vs <;> simp_all
  rw [e1]
  exact q
end
/-! ### texts -/
theorem q_catS {i j k : Str} (h : catS i j = some k) (q : Q (.str k) H) : zAddS (.str i) (.str j) H Q := by
  unfold catS at h
  obtain ⟨h1, h2⟩ := grd h
  cases som h2
  exact ⟨i, j, rfl, rfl, lim_le (of_decide_eq_true h1), q⟩
theorem q_ixS {z c : Str} {i : Int} (h : ixS z i = some c) (q : Q (.str c) H) : rIxS (.str z) (.int i) H Q := by
  unfold ixS at h
  obtain ⟨h1, h2⟩ := grd h
  obtain ⟨k, h3, h4⟩ := bnd h2
  cases som h4
  exact ⟨z, i, k, rfl, rfl, lim_le (of_decide_eq_true h1), h3, q⟩
theorem q_slS {z c : Str} {lo hi : Option Int} (h : sliceS z lo hi = some c) (q : Q (.str c) H) : rSlS (.str z) lo hi H Q := by
  unfold sliceS at h
  obtain ⟨h1, h2⟩ := grd h
  cases som h2
  exact ⟨z, rfl, lim_le (of_decide_eq_true h1), q⟩
theorem q_repS {z r : Str} {n : Int} (h : repSF z n = some r) (q : Q (.str r) H) : rRepS (.str z) (.int n) H Q := by
  unfold repSF at h
  obtain ⟨h1, h2⟩ := grd h
  rw [Bool.and_eq_true, Bool.and_eq_true, decide_eq_true_iff, decide_eq_true_iff, decide_eq_true_iff] at h1
  cases som h2
  refine ⟨z, n.toNat, rfl, ?_, by omega, h1.2, q⟩
  rw [show ((n.toNat : Nat) : Int) = n by omega]
theorem q_lenS {z : Str} {n : Int} (h : lenS z = some n) (q : Q (.int n) H) : zLenS [.str z] H Q := by
  unfold lenS at h
  obtain ⟨h1, h2⟩ := grd h
  cases som h2
  exact ⟨z, rfl, lim_le (of_decide_eq_true h1), q⟩
/-! ### calls -/
theorem q_max2 {i j : Int} (q : Q (.int (maxI i j)) H) : zMax2 [.int i, .int j] H Q := ⟨i, j, rfl, q⟩
theorem q_min2 {i j : Int} (q : Q (.int (minI i j)) H) : zMin2 [.int i, .int j] H Q := ⟨i, j, rfl, q⟩
theorem q_int1 {b : Bool} (q : Q (.int (b2I b)) H) : zInt1 [.bl b] H Q := Or.inr ⟨b, rfl, q⟩
def zRg (a b : Int) (H : Hp) (Q : VK) : Prop := RgOk a b ∧ ∀ q, H q = none → Q (.ref q) (upd H q (.lst (rgV a b)))
theorem rd_lstRgZ {tr : L2.St → Hp → (Int → Int → Hp → Prop) → Prop} (q : tr σ H fun a b H1 => zRg a b H1 Q) : tLstRg tr σ H Q := q
theorem rd_rg2 {ta tb : TE} {R : Int → Int → Hp → Prop} (q : ta σ H fun x H1 => tb σ H1 fun y H2 => ∃ i j, x = .int i ∧ y = .int j ∧ R i j H2) : tRg2 ta tb σ H R := q
theorem q_lrg {a b : Int} {l : List Int} (h : lrgF a b = some l) (q : zNew (l.map V.int) H Q) : zRg a b H Q := by
  unfold lrgF at h
  obtain ⟨h1, h2⟩ := grd h
  rw [Bool.and_eq_true, Bool.and_eq_true, Bool.and_eq_true, Bool.and_eq_true, decide_eq_true_iff, decide_eq_true_iff, decide_eq_true_iff, decide_eq_true_iff, decide_eq_true_iff] at h1
  cases som h2
  refine ⟨⟨h1.1.1.1.1, h1.1.1.1.2, h1.1.1.2, h1.1.2, Nat.le_trans h1.2 (by decide)⟩, ?_⟩
  have e : rgV a b = (rgI a b).map V.int := by
    unfold rgV rgI
    rw [List.map_map]
    rfl
  intro p hp
  rw [e]
  exact q p hp
theorem rng_ok {a b : Int} {l : List Int} (h : rngF a b = some l) : -(2 ^ 62) ≤ a ∧ a < 2 ^ 62 ∧ -(2 ^ 62) ≤ b ∧ b < 2 ^ 62 ∧ l = rgI a b := by
  unfold rngF at h
  obtain ⟨h1, h2⟩ := grd h
  rw [Bool.and_eq_true, Bool.and_eq_true, Bool.and_eq_true, decide_eq_true_iff, decide_eq_true_iff, decide_eq_true_iff, decide_eq_true_iff] at h1
  exact ⟨h1.1.1.1, h1.1.1.2, h1.1.2, h1.2, (som h2).symm⟩
def zRng1 (vs : List V) (H : Hp) (R : It → Hp → Prop) : Prop := ∃ j : Int, vs = [.int j] ∧ -(2 ^ 62) ≤ j ∧ j < 2 ^ 62 ∧ R (Itr 0 j.toNat) H
def zRng2 (vs : List V) (H : Hp) (R : It → Hp → Prop) : Prop := ∃ i j : Int, vs = [.int i, .int j] ∧ (-(2 ^ 62) ≤ i ∧ i < 2 ^ 62 ∧ -(2 ^ 62) ≤ j ∧ j < 2 ^ 62) ∧ R (Itr i (j - i).toNat) H
theorem rd_iR1 {ta : TA} {R : It → Hp → Prop} (q : ta σ H fun vs H1 => zRng1 vs H1 R) : iRng1 ta σ H R := q
theorem rd_iR2 {ta : TA} {R : It → Hp → Prop} (q : ta σ H fun vs H1 => zRng2 vs H1 R) : iRng2 ta σ H R := q
theorem rd_iStr {R : It → Hp → Prop} (q : te σ H fun v H1 => ∃ x, v = .str x ∧ R (Its x) H1) : iStr te σ H R := q
theorem rd_iZip {K : PySem.W.Frag} {ta : TA} {R : It → Hp → Prop} (q : ta σ H fun vs H1 => ∃ a b xs ys, vs = [.ref a, .ref b] ∧ SqL K H1 a xs ∧ SqL K H1 b ys ∧ R (Itz K a b) H1) : iZip K ta σ H R := q
theorem q_rng1 {a : Int} {l : List Int} {R : It → Hp → Prop} (h : rngF 0 a = some l) (q : R (Itr 0 a.toNat) H) : zRng1 [.int a] H R := by
  obtain ⟨_, _, h3, h4, _⟩ := rng_ok h
  exact ⟨a, rfl, h3, h4, q⟩
theorem q_rng2 {a b : Int} {l : List Int} {R : It → Hp → Prop} (h : rngF a b = some l) (q : R (Itr a (b - a).toNat) H) : zRng2 [.int a, .int b] H R := by
  obtain ⟨h1, h2, h3, h4, _⟩ := rng_ok h
  exact ⟨a, b, rfl, ⟨h1, h2, h3, h4⟩, q⟩
end
/-! ### walks -/
section
variable {F0 H0 G H H' : Hp} {a b T : Addr} {vs us : List V} {v w : V} {α β : Type} {e : α → PyData} {e2 : β → PyData} {l : List α} {m : List β} {K : PySem.W.Frag} {ms : List Addr} {cs : List (Addr × HO)}
theorem w_rng2 {lo hi : Int} {l : List Int} (h : rngF lo hi = some l) : Walk (Itr lo (hi - lo).toNat) l.length (fun _ => True) (fun i H v H' => H' = H ∧ ∀ a, l[i]? = some a → v = .int a) := by
  obtain ⟨_, _, _, _, rfl⟩ := rng_ok h
  refine (w_rng lo hi).mono (fun _ h => h) fun i H x H' _ _ y => ⟨y.1, fun a ha => ?_⟩
  rw [y.2, rgI_get ha]
theorem w_rng1 {hi : Int} {l : List Int} (h : rngF 0 hi = some l) : Walk (Itr 0 hi.toNat) l.length (fun _ => True) (fun i H v H' => H' = H ∧ ∀ a, l[i]? = some a → v = .int a) := by
  have := w_rng2 h
  rw [Int.sub_zero] at this
  exact this
theorem w_li (f : FrL F0 G vs (l.map e)) : Walk (Itl K a) l.length (fun H => H a = some (.lst vs)) (fun i H v H' => H' = H ∧ ∀ x, l[i]? = some x → Fr F0 G v (e x)) :=
  (w_list f).mono (fun _ h => h) fun i H x H' _ _ y => ⟨y.1, fun z hz => frl_at f hz y.2⟩
theorem w_en (f : FrL F0 G vs (l.map e)) : Walk (Ite K a) (enumI l).length (fun H => H a = some (.lst vs)) (fun i H v H' => ∃ T v1 v2, v = .ref T ∧ H T = none ∧ H' = upd H T (.tup [v1, v2]) ∧ ∀ p, (enumI l)[i]? = some p → Fr F0 G v1 (eI p.1) ∧ Fr F0 G v2 (e p.2)) := by
  rw [enumI_len]
  refine (w_enum f).mono (fun _ h => h) fun i H x H' _ _ y => ?_
  obtain ⟨T, v1, v2, h1, h2, h3, h4, h5⟩ := y
  refine ⟨T, v1, v2, h1, h2, h3, fun p hp => ?_⟩
  obtain ⟨k1, k2⟩ := enumI_get hp
  cases som h4
  rw [k1]
  exact ⟨.int _, frl_at f k2 h5⟩
theorem w_zip2 (f : FrL F0 G vs (l.map e)) (g : FrL F0 G us (m.map e2)) : Walk (Itz K a b) (zipL l m).length (fun H => H a = some (.lst vs) ∧ H b = some (.lst us))
    (fun i H v H' => ∃ T v1 v2, v = .ref T ∧ H T = none ∧ H' = upd H T (.tup [v1, v2]) ∧ ∀ p, (zipL l m)[i]? = some p → Fr F0 G v1 (e p.1) ∧ Fr F0 G v2 (e2 p.2)) := by
  have hn : (zipL l m).length = min vs.length us.length := by
    unfold zipL
    rw [List.length_zip, f.len, g.len, List.length_map, List.length_map]
  refine (walk_zip hn).mono (fun _ h => ⟨SqL.of h.1, SqL.of h.2⟩) fun i H x H' _ _ y => ?_
  obtain ⟨T, v1, v2, h1, h2, h3, h4, h5⟩ := y
  refine ⟨T, v1, v2, h1, h2, h3, fun p hp => ?_⟩
  unfold zipL at hp
  rw [List.getElem?_zip_eq_some] at hp
  exact ⟨frl_at f hp.1 h4, frl_at g hp.2 h5⟩
theorem chars_len (z : Str) : (chars z).length = z.cps.size := by
  unfold chars
  rw [List.length_map, Array.length_toList]
theorem w_ch (z : Str) : Walk (Its z) (chars z).length (fun _ => True) (fun i H v H' => H' = H ∧ ∀ a, (chars z)[i]? = some a → v = .str a) := by
  rw [chars_len]
  refine walk_str.mono (fun _ h => h) fun i H x H' _ _ y => ⟨y.1, fun a ha => ?_⟩
  obtain ⟨c, h1, h2⟩ := y.2
  unfold chars at ha
  rw [List.getElem?_map] at ha
  obtain ⟨d, h3, h4⟩ := Option.map_eq_some_iff.mp ha
  rw [h2, ← h4]
  rw [Array.getElem?_toList, h1] at h3
  cases h3
  rfl
theorem Sep.pair (S : Sep ms H0 G H cs) {d d2 : PyData} (hT : H T = none) (eH : H' = upd H T (.tup [v, w])) (f : Fr F0 G v d) (g : Fr F0 G w d2) : ∃ G', Sep ms H0 G' H' cs ∧ Same G G' ∧ Fr F0 G' (.ref T) (.tuple [d, d2]) := by
  subst eH
  have sm := sNew (o := .tup [v, w]) (S.gfree hT)
  exact ⟨_, S.sh hT, sm, .tup upd_same (.cons (f.same sm) (.cons (g.same sm) .nil))⟩
theorem Sep.fixF {F0 : Hp} {ds : List PyData} (S : Sep ms H0 G H cs) (i : Nat) (h : cs[i]? = some (a, .lst vs)) (hm : a ∉ ms) (f : FrL F0 G vs ds) (n : F0 a = none) : ∃ G', Sep ms H0 G' H (cs.eraseIdx i) ∧ Same G G' ∧ Fr F0 G' (.ref a) (.list ds) :=
  ⟨_, S.fix i h hm, sNew (S.gnone i h), .lst upd_same n (f.same (sNew (S.gnone i h)))⟩
theorem q_lcL {J : It} {Gd : Hp → Prop} {Y : Nat → Hp → V → Hp → Prop} {g : TG} {σ : L2.St} {f : α → Option (Option β)} {xs : List α} {ys : List β} {enc : β → PyData} {A : Addr} {Qd : Hp → Prop} {tt : TT} {te : TE} {vs : List Nat}
    (hf : compL f xs = some ys) (w : Walk J xs.length Gd Y) (S0 : Sep ms H0 G H cs) (hA : H A = none) (hF : ∀ b, H b = none → F0 b = none)
    (hg : ∀ G' H' acc, Sep ms H0 G' H' ((A, .lst acc) :: cs) → Same G G' → Gd H')
    (hs : ∀ i x a o G1 H1 H2 acc, xs[i]? = some a → f a = some o → Sep ms H0 G1 H1 ((A, .lst acc) :: cs) → Same G G1 → Y i H1 x H2 →
      ∀ (T : V → Hp → Prop) (F : Hp → Prop), (∀ y b G' H', o = some b → Sep ms H0 G' H' ((A, .lst acc) :: cs) → Same G1 G' → Fr F0 G' y (enc b) → T y H') → (∀ G' H', o = none → Sep ms H0 G' H' ((A, .lst acc) :: cs) → Same G1 G' → F H') →
      g x (wipe σ vs) H2 fun σ2 H2 => wipe σ2 vs = wipe σ vs ∧ tt σ2 H2 fun b H3 => if b = true then te σ2 H3 T else F H3)
    (hd : ∀ G' H' us, Sep ms H0 G' H' ((A, .lst us) :: cs) → Same G G' → FrL F0 G' us (ys.map enc) → H0 A = none → F0 A = none → Qd H') : LcG J g tt te vs σ H A Qd := by
  unfold compL at hf
  obtain ⟨h1, h2⟩ := grd hf
  exact q_lc h2 (of_decide_eq_true h1) w S0 hA hF hg hs hd
end
end LQ

/-! sorted, sets, join, sums. -/
namespace LQ
open PySem PySem.Spec PyProof.Rows L2 LX
def leS (x y : Str) : Bool := decide (x.cps.toList ≤ y.cps.toList)
def sortU (ks : List Str) : List Str := (dd ks).mergeSort leS
def sortS (ks : List Str) : List Str := ks.mergeSort leS
def sortUI (ks : List Int) : List Int := (dd ks).mergeSort
/-- what a set may be made of -/
def setSF {α : Type} (ks : List α) : Option (List α) := cond (decide (ks.length ≤ 4000)) (some ks) none
def countD {α : Type} [DecidableEq α] (ks : List α) : Int := ((dd ks).length : Int)
theorem str_ext {x y : Str} (h : x.cps.toList = y.cps.toList) : x = y := by
  obtain ⟨a⟩ := x
  obtain ⟨b⟩ := y
  congr 1
  exact Array.toList_inj.mp h
theorem leS_trans (a b c : Str) (h : leS a b = true) (k : leS b c = true) : leS a c = true := by
  unfold leS at *
  rw [decide_eq_true_iff] at *
  exact List.le_trans h k
theorem leS_total (a b : Str) : (leS a b || leS b a) = true := by
  unfold leS
  rw [Bool.or_eq_true, decide_eq_true_iff, decide_eq_true_iff]
  exact List.le_total _ _
theorem leS_anti {a b : Str} (h : leS a b = true) (k : leS b a = true) : a = b := by
  unfold leS at *
  rw [decide_eq_true_iff] at *
  exact str_ext (List.le_antisymm h k)
theorem rising_pw : ∀ (l : List Str) (p : Str), risingS p l = true → (p :: l).Pairwise fun a b => leS a b = true
  | [], p, _ => List.pairwise_singleton _ _
  | x :: l, p, h => by
    have h1 : (!ltCps x.cps.toList p.cps.toList && risingS x l) = true := h
    rw [Bool.and_eq_true, Bool.not_eq_true'] at h1
    have ih := rising_pw l x h1.2
    have px : leS p x = true := by
      unfold leS
      rw [decide_eq_true_iff]
      refine List.not_lt.mp fun z => ?_
      have := h1.1
      rw [ltCps_eq, decide_eq_false_iff_not] at this
      exact this z
    refine List.pairwise_cons.mpr ⟨fun y hy => ?_, ih⟩
    rcases List.mem_cons.mp hy with rfl | hy
    · exact px
    · exact leS_trans _ _ _ px ((List.pairwise_cons.mp ih).1 y hy)
theorem sorted_pw {l : List Str} (h : sortedS l = true) : l.Pairwise fun a b => leS a b = true := by
  cases l with
  | nil => exact .nil
  | cons x l => exact rising_pw l x h
theorem sortU_is {ks ys : List Str} (h1 : ys.Pairwise fun a b => leS a b = true) (h2 : ys.Nodup) (h3 : ∀ k, k ∈ ys ↔ k ∈ ks) : ys = sortU ks := by
  refine List.Perm.eq_of_pairwise (le := fun a b => leS a b = true) (fun a b _ _ x y => leS_anti x y) h1 (List.pairwise_mergeSort leS_trans leS_total _) ?_
  refine ((List.perm_ext_iff_of_nodup h2 (dd_nodup ks)).mpr fun k => ?_).trans (List.mergeSort_perm _ _).symm
  rw [h3, mem_dd]
theorem sortUI_is {ks ys : List Int} (h1 : ys.Pairwise (· < ·)) (h3 : ∀ k, k ∈ ys ↔ k ∈ ks) : ys = sortUI ks := by
  have p := List.pairwise_mergeSort (le := fun a b : Int => decide (a ≤ b)) (fun a b c h k => by rw [decide_eq_true_iff] at *; omega) (fun a b => by rw [Bool.or_eq_true, decide_eq_true_iff, decide_eq_true_iff]; omega) (dd ks)
  refine List.Perm.eq_of_pairwise (le := fun a b : Int => decide (a ≤ b) = true) (fun a b _ _ x y => by rw [decide_eq_true_iff] at *; omega) (h1.imp fun h => by rw [decide_eq_true_iff]; omega) p ?_
  refine ((List.perm_ext_iff_of_nodup (h1.imp fun h => by omega) (dd_nodup ks)).mpr fun k => ?_).trans (List.mergeSort_perm _ _).symm
  rw [h3, mem_dd]
theorem sortI_is {ks ys : List Int} (h1 : ys.Pairwise (· ≤ ·)) (h3 : ys.Perm ks) : ys = sortI ks := by
  have p := List.pairwise_mergeSort (le := fun a b : Int => decide (a ≤ b)) (fun a b c h k => by rw [decide_eq_true_iff] at *; omega) (fun a b => by rw [Bool.or_eq_true, decide_eq_true_iff, decide_eq_true_iff]; omega) ks
  exact List.Perm.eq_of_pairwise (le := fun a b : Int => decide (a ≤ b) = true) (fun a b _ _ x y => by rw [decide_eq_true_iff] at *; omega) (h1.imp fun h => by rw [decide_eq_true_iff]; omega) p (h3.trans (List.mergeSort_perm _ _).symm)
section
variable {ms : List Addr} {F0 H0 G G' H H' : Hp} {cs : List (Addr × HO)} {a b : Addr} {vs : List V} {K : PySem.W.Frag} {P : Program} {w : World} {Q : VK} {d : PyData}
theorem q_sortI {l : List Int} (h : H a = some (.lst vs)) (f : FrL F0 G vs (l.map eI)) (q : zNew ((sortI l).map V.int) H Q) : rSortedI K [.ref a] H Q := by
  rw [frl_ints f] at h
  refine ⟨a, l, rfl, SqL.of h, fun ns' p pm pw np => ?_⟩
  rw [sortI_is pw pm]
  exact q p np
theorem repr_ok {s : Str} (h : reprF d = some s) : d.showable = true ∧ d.hasDict = false ∧ d.depth ≤ 20 ∧ d.shown.length ≤ sizeLine ∧ d.shown = s := by
  unfold reprF at h
  obtain ⟨h1, h2⟩ := grd h
  rw [Bool.and_eq_true, Bool.and_eq_true, Bool.and_eq_true, Bool.not_eq_true', decide_eq_true_iff, decide_eq_true_iff] at h1
  exact ⟨h1.1.1.1, h1.1.1.2, h1.1.2, h1.2, som h2⟩
theorem q_repr {s : Str} (f : Fr F0 H (.ref a) d) (h : reprF d = some s) (q : Q (.str s) H) : qRepr K [.ref a] H Q := by
  obtain ⟨h1, h2, h3, h4, h5⟩ := repr_ok h
  exact ⟨_, d, rfl, ⟨a, rfl⟩, f.dp h2, h1, h2, h3, h4, by rw [h5]; exact q⟩
def zJoin (K : PySem.W.Frag) : V → List V → Hp → VK → Prop := fun x xs H Q => ∃ a p, ∃ ys : List Str, x = .str a ∧ xs = [.ref p] ∧ (SqL K H p (ys.map V.str) ∨ SqT K H p (ys.map V.str)) ∧
  (ys.map (·.length)).sum + ys.length * a.length ≤ 16777216 ∧ Q (.str (Txt.join a ys)) H
theorem kjoin {X : Cx} (h : X.K = K := by rfl) : MtR X "str.join" (zJoin K) := h ▸ mt_join
theorem q_join {z r : Str} {l : List Str} (h : H a = some (.lst vs)) (f : FrL F0 G vs (l.map eS)) (k : joinF z l = some r) (q : Q (.str r) H) : zJoin K (.str z) [.ref a] H Q := by
  rw [frl_strs f] at h
  unfold joinF at k
  obtain ⟨h1, h2⟩ := grd k
  cases som h2
  exact ⟨z, a, l, rfl, rfl, Or.inl (SqL.of h), of_decide_eq_true h1, q⟩
theorem q_sum {l : List Int} (h : H a = some (.lst vs)) (f : FrL F0 G vs (l.map eI)) (q : Q (.int l.sum) H) : rSum K [.ref a] H Q := by
  rw [frl_ints f] at h
  exact ⟨a, l, rfl, SqL.of h, q⟩
theorem q_all {l : List Bool} (h : H a = some (.lst vs)) (f : FrL F0 G vs (l.map eB)) (q : Q (.bl (l.all id)) H) : rAll K [.ref a] H Q := by
  rw [frl_bls f] at h
  exact ⟨a, l, rfl, SqL.of h, q⟩
theorem q_any {l : List Bool} (h : H a = some (.lst vs)) (f : FrL F0 G vs (l.map eB)) (q : Q (.bl (l.any id)) H) : rAny K [.ref a] H Q := by
  rw [frl_bls f] at h
  exact ⟨a, l, rfl, SqL.of h, q⟩
/-- a set of texts, of ints -/
structure SetS (P : Program) (w : World) (G : Hp) (a : Addr) (ks : List Str) : Prop where
  at_ : G a = some (TxtSet P w a (fun k => decide (k ∈ ks)) (dd ks).length)
structure SetI (P : Program) (w : World) (G : Hp) (a : Addr) (ks : List Int) : Prop where
  at_ : G a = some (IntSet P w a (fun k => decide (k ∈ ks)) (dd ks).length)
theorem SetS.same {ks : List Str} (h : SetS P w G a ks) (s : Same G G') : SetS P w G' a ks := ⟨s _ _ h.at_⟩
theorem SetI.same {ks : List Int} (h : SetI P w G a ks) (s : Same G G') : SetI P w G' a ks := ⟨s _ _ h.at_⟩
theorem setS_ok {α : Type} {l ks : List α} (h : setSF l = some ks) : l.length + 1 < 4096 ∧ ks = l := by
  unfold setSF at h
  obtain ⟨h1, h2⟩ := grd h
  have := of_decide_eq_true h1
  exact ⟨by omega, (som h2).symm⟩
theorem q_setS {l ks : List Str} (S : Sep ms H0 G H cs) (h : H a = some (.lst vs)) (f : FrL F0 G vs (l.map eS)) (k : setSF l = some ks) (q : ∀ p G' H', Sep ms H0 G' H' cs → Same G G' → SetS P w G' p ks → Q (.ref p) H') : rSetS K P w [.ref a] H Q := by
  rw [frl_strs f] at h
  obtain ⟨h1, rfl⟩ := setS_ok k
  exact ⟨ks, Or.inl ⟨a, rfl, SqL.of h⟩, h1, fun p hp => q p _ _ (S.sh hp) (sNew (S.gfree hp)) ⟨upd_same⟩⟩
theorem q_setT {z : Str} {ks : List Str} (S : Sep ms H0 G H cs) (k : setSF (chars z) = some ks) (q : ∀ p G' H', Sep ms H0 G' H' cs → Same G G' → SetS P w G' p ks → Q (.ref p) H') : rSetS K P w [.str z] H Q := by
  obtain ⟨h1, rfl⟩ := setS_ok k
  exact ⟨_, Or.inr ⟨z, rfl, rfl⟩, h1, fun p hp => q p _ _ (S.sh hp) (sNew (S.gfree hp)) ⟨upd_same⟩⟩
theorem q_setI {l ks : List Int} (S : Sep ms H0 G H cs) (h : H a = some (.lst vs)) (f : FrL F0 G vs (l.map eI)) (k : setSF l = some ks) (q : ∀ p G' H', Sep ms H0 G' H' cs → Same G G' → SetI P w G' p ks → Q (.ref p) H') : rSetI K P w [.ref a] H Q := by
  rw [frl_ints f] at h
  obtain ⟨h1, rfl⟩ := setS_ok k
  exact ⟨ks, a, rfl, SqL.of h, h1, fun p hp => q p _ _ (S.sh hp) (sNew (S.gfree hp)) ⟨upd_same⟩⟩
theorem q_lenSetS {ks : List Str} (S : Sep ms H0 G H cs) (f : SetS P w G a ks) (q : Q (.int (countD ks)) H) : rLenSet P w [.ref a] H Q := ⟨a, _, rfl, Or.inl ⟨_, S.sub _ _ f.at_⟩, q⟩
theorem q_lenSetI {ks : List Int} (S : Sep ms H0 G H cs) (f : SetI P w G a ks) (q : Q (.int (countD ks)) H) : rLenSet P w [.ref a] H Q := ⟨a, _, rfl, Or.inr ⟨_, S.sub _ _ f.at_⟩, q⟩
theorem q_sortU {ks : List Str} (S : Sep ms H0 G H cs) (f : SetS P w G a ks) (q : zNew ((sortU ks).map V.str) H Q) : rSortTxt P w [.ref a] H Q := by
  refine ⟨a, _, _, rfl, S.sub _ _ f.at_, fun p ys np h1 h2 h3 _ => ?_⟩
  rw [sortU_is (sorted_pw h1) h2 fun k => (h3 k).trans decide_eq_true_iff]
  exact q p np
theorem q_sortUI {ks : List Int} (S : Sep ms H0 G H cs) (f : SetI P w G a ks) (q : zNew ((sortUI ks).map V.int) H Q) : rSortInt P w [.ref a] H Q := by
  refine ⟨a, _, _, rfl, S.sub _ _ f.at_, fun p ys np h1 h2 _ => ?_⟩
  rw [sortUI_is h1 fun k => (h2 k).trans decide_eq_true_iff]
  exact q p np
/-- a set comprehension of texts -/
abbrev ScG (P : Program) (w : World) (J : It) (g : TG) (tt : TT) (te : TE) (vs : List Nat) (σ : L2.St) (H1 : Hp) (D : Addr) (Qd : Hp → Prop) : Prop := ∃ W : Nat → Nat → Hp → Prop, (∃ m, W 0 m (upd H1 D (TxtSet P w D (fun _ => false) 0))) ∧ ∀ j m G, W j m G →
  (J.stop j G ∧ Qd G) ∨ (J.go j G ∧ ∃ Z : Hp → Prop, (∀ G', Z G' → ∃ m', m' < m ∧ W (j + 1) m' G') ∧ ∀ x G', J.yld j G x G' → g x (wipe σ vs) G' fun τ G2 => wipe τ vs = wipe σ vs ∧ tt τ G2 fun b G3 =>
    if b = true then te τ G3 fun y G4 => ∃ (c : Str) (S : Str → Bool) (n : Nat), y = .str c ∧ G4 D = some (TxtSet P w D S n) ∧ n + 1 < scanBound ∧ Z (upd G4 D (TxtSet P w D (fun k => S k || decide (k = c)) (if S c = true then n else n + 1))) else Z G3)
theorem txt_tup {p : Addr} {S : Str → Bool} {n : Nat} : ∀ xs, TxtSet P w p S n ≠ .tup xs := fun _ z => by cases z
theorem set_snoc (D : Addr) (ks : List Str) (c : Str) : TxtSet P w D (fun k => decide (k ∈ ks) || decide (k = c)) (if decide (c ∈ ks) = true then (dd ks).length else (dd ks).length + 1) = TxtSet P w D (fun k => decide (k ∈ ks ++ [c])) (dd (ks ++ [c])).length := by
  congr 1
  · funext k
    rw [Bool.eq_iff_iff, Bool.or_eq_true, decide_eq_true_iff, decide_eq_true_iff, decide_eq_true_iff, List.mem_append, List.mem_singleton]
  · rw [dd_snoc]
    by_cases h : c ∈ ks
    · rw [if_pos (decide_eq_true h), if_pos (mem_dd.mpr h)]
    · rw [if_neg (by rw [decide_eq_false h]; decide), if_neg (fun z => h (mem_dd.mp z)), List.length_append]
      rfl
def ocons {β : Type} : Option β → List β → List β
  | none, zs => zs
  | some y, zs => y :: zs
theorem compF_drop {α β : Type} {f : α → Option (Option β)} {xs : List α} {i : Nat} {a : α} {ys : List β} (hi : xs[i]? = some a) (h : compF f (xs.drop i) = some ys) :
    ∃ o zs, f a = some o ∧ compF f (xs.drop (i + 1)) = some zs ∧ ys = ocons o zs := by
  rw [drop_of hi] at h
  obtain ⟨p, h1, h2⟩ := bnd h
  obtain ⟨q, h3, h4⟩ := bnd h2
  cases h4
  refine ⟨p, q, h1, h3, ?_⟩
  cases p <;> rfl
def compT {α : Type} (f : α → Option (Option Str)) (l : List α) : Option (List Str) := cond (decide (l.length ≤ 4000)) (compF f l) none
theorem compF_len {α β : Type} {f : α → Option (Option β)} {xs : List α} {ys : List β} (h : compF f xs = some ys) : ys.length ≤ xs.length := compS_len (compF_S h)
theorem q_scT {α : Type} {J : It} {Gd : Hp → Prop} {Y : Nat → Hp → V → Hp → Prop} {g : TG} {σ : L2.St} {f : α → Option (Option Str)} {xs : List α} {ys : List Str} {A : Addr} {Qd : Hp → Prop} {tt : TT} {te : TE} {vs : List Nat}
    (hf : compT f xs = some ys) (w0 : Walk J xs.length Gd Y) (S0 : Sep ms H0 G H cs) (hA : H A = none)
    (hg : ∀ G' H' o, Sep ms H0 G' H' ((A, o) :: cs) → Same G G' → Gd H')
    (hs : ∀ i x a o G1 H1 H2 u, xs[i]? = some a → f a = some o → Sep ms H0 G1 H1 ((A, u) :: cs) → Same G G1 → Y i H1 x H2 →
      ∀ (T : V → Hp → Prop) (F : Hp → Prop), (∀ b G' H', o = some b → Sep ms H0 G' H' ((A, u) :: cs) → Same G1 G' → T (.str b) H') → (∀ G' H', o = none → Sep ms H0 G' H' ((A, u) :: cs) → Same G1 G' → F H') →
      g x (wipe σ vs) H2 fun σ2 H2 => wipe σ2 vs = wipe σ vs ∧ tt σ2 H2 fun b H3 => if b = true then te σ2 H3 T else F H3)
    (hd : ∀ G' H', Sep ms H0 G' H' cs → Same G G' → SetS P w G' A ys → Qd H') : ScG P w J g tt te vs σ H A Qd := by
  unfold compT at hf
  obtain ⟨hz, hf⟩ := grd hf
  have hz := of_decide_eq_true hz
  have yl := compF_len hf
  refine ⟨fun i m H' => m = xs.length - i ∧ i ≤ xs.length ∧ ∃ zs ws G', compF f (xs.drop i) = some zs ∧ ys = ws ++ zs ∧ Sep ms H0 G' H' ((A, TxtSet P w A (fun k => decide (k ∈ ws)) (dd ws).length) :: cs) ∧ Same G G',
    ⟨_, rfl, Nat.zero_le _, ys, [], G, hf, rfl, ?_, Same.refl _⟩, ?_⟩
  · have e : TxtSet P w A (fun _ => false) 0 = TxtSet P w A (fun k => decide (k ∈ ([] : List Str))) (dd ([] : List Str)).length := by
      congr 1
    rw [← e]
    exact S0.own hA txt_tup
  rintro i m H1 ⟨rfl, hi, zs, ws, G1, hl, rfl, S1, s1⟩
  have q := hg G1 H1 _ S1 s1
  by_cases hlt : i < xs.length
  · obtain ⟨o, zs2, h1, h2, h3⟩ := compF_drop (List.getElem?_eq_getElem hlt) hl
    refine .inr ⟨w0.goes i H1 hlt q, fun H' => ∃ zs ws' G', compF f (xs.drop (i + 1)) = some zs ∧ ws ++ ocons o zs2 = ws' ++ zs ∧ Sep ms H0 G' H' ((A, TxtSet P w A (fun k => decide (k ∈ ws')) (dd ws').length) :: cs) ∧ Same G G', ?_, ?_⟩
    · rintro H' ⟨zs3, ws', G', k1, k2, k3, k4⟩
      exact ⟨xs.length - (i + 1), by omega, rfl, hlt, zs3, ws', G', k1, by rw [h3]; exact k2, k3, k4⟩
    · intro x H2 y
      refine hs i x _ o G1 H1 H2 _ (List.getElem?_eq_getElem hlt) h1 S1 s1 (w0.yields i H1 x H2 hlt q y) _ _ (fun b G' H' e S' sG => ?_) fun G' H' e S' sG => ?_
      · subst e
        have lw : ws.length ≤ xs.length := by
          rw [h3, List.length_append] at yl
          omega
        have ld := dd_le ws
        refine ⟨b, _, _, rfl, S'.get 0 rfl, by unfold scanBound; omega, zs2, ws ++ [b], G', h2, by rw [List.append_assoc]; rfl, ?_, s1.trans sG⟩
        rw [set_snoc]
        exact S'.put 0 rfl txt_tup
      · subst e
        exact ⟨zs2, ws, G', h2, rfl, S', s1.trans sG⟩
  · have e : i = xs.length := by omega
    subst e
    rw [List.drop_length] at hl
    cases hl
    rw [List.append_nil] at hd
    have S2 := S1.fix 0 rfl
    by_cases hm : A ∈ ms
    · exact absurd (S0.old A hA) (S0.hms A hm)
    · exact .inl ⟨w0.stops H1 q, hd _ H1 (S2 hm) (s1.trans (sNew (S1.gnone 0 rfl))) ⟨upd_same⟩⟩
theorem rd_scT' {wi : TI} {g : TG} {tt : TT} {te : TE} {vs : List Nat} {σ : L2.St} (q : wi σ H fun J G1 => ∀ D, G1 D = none → ScG P w J g tt te vs σ G1 D fun G => Q (.ref D) G) : tScT P w wi g tt te vs σ H Q := q
end
end LQ

/-! More of what is owned: starts, arguments, results that are owned. -/
namespace LQ
open PySem L2 LX
theorem rd_lst_dk {G : Hp} {a : Addr} {xs : List V} {kvs : List (Key × V)} (h : G a = some (.lst xs)) : ¬ Rd G a (.dK kvs) := by
  rintro (k | ⟨o, k⟩) <;> (rw [h] at k; cases k)
theorem rd_tup_dk {G : Hp} {a : Addr} {xs : List V} {kvs : List (Key × V)} (h : G a = some (.tup xs)) : ¬ Rd G a (.dK kvs) := by
  rintro (k | ⟨o, k⟩) <;> (rw [h] at k; cases k)
theorem rd_dk {G : Hp} {a : Addr} {kvs kvs' : List (Key × V)} (h : Rd G a (.dK kvs)) (k : Rd G a (.dK kvs')) : kvs = kvs' := by
  rcases h with h | ⟨o, h⟩ <;> rcases k with k | ⟨o', k⟩ <;> (rw [h] at k; cases k) <;> rfl
mutual
theorem Fr.fn {F0 F1 G : Hp} : ∀ {v : V} {d e : PyData}, Fr F0 G v d → Fr F1 G v e → d = e
  | _, _, _, .non, .non => rfl
  | _, _, _, .bl b, .bl _ => rfl
  | _, _, _, .int i, .int _ => rfl
  | _, _, _, .str x, .str _ => rfl
  | _, _, _, .lst h _ hs, .lst k _ ks => by
    rw [h] at k
    cases k
    rw [FrL.fn hs ks]
  | _, _, _, .lst h _ _, .tup k _ => by
    rw [h] at k
    cases k
  | _, _, _, .lst h _ _, .dic k _ _ => absurd k (rd_lst_dk h)
  | _, _, _, .tup h _, .lst k _ _ => by
    rw [h] at k
    cases k
  | _, _, _, .tup h hs, .tup k ks => by
    rw [h] at k
    cases k
    rw [FrL.fn hs ks]
  | _, _, _, .tup h _, .dic k _ _ => absurd k (rd_tup_dk h)
  | _, _, _, .dic h _ _, .lst k _ _ => absurd h (rd_lst_dk k)
  | _, _, _, .dic h _ _, .tup k _ => absurd h (rd_tup_dk k)
  | _, _, _, .dic h _ hs, .dic k _ ks => by
    cases rd_dk h k
    rw [FrK.fn hs ks]
theorem FrL.fn {F0 F1 G : Hp} : ∀ {vs : List V} {d e : List PyData}, FrL F0 G vs d → FrL F1 G vs e → d = e
  | _, _, _, .nil, .nil => rfl
  | _, _, _, .cons h hs, .cons k ks => by rw [Fr.fn h k, FrL.fn hs ks]
theorem FrK.fn {F0 F1 G : Hp} : ∀ {vs : List (Key × V)} {d e : List (PyData × PyData)}, FrK F0 G vs d → FrK F1 G vs e → d = e
  | _, _, _, .nil, .nil => rfl
  | _, _, _, .cons h hs, .cons k ks => by rw [Fr.fn h k, FrK.fn hs ks]
end
mutual
theorem Fr.off {F0 F1 G : Hp} {a : Addr} {D : PyData} (A : Fr F1 G (.ref a) D) : ∀ {v : V} {d : PyData}, Fr F0 G v d → sizeOf d < sizeOf D → Fr F0 (hid G [a]) v d
  | _, _, .non, _ => .non
  | _, _, .bl b, _ => .bl b
  | _, _, .int i, _ => .int i
  | _, _, .str x, _ => .str x
  | _, _, .lst (a := b) (ds := ds) h n hs, z => by
    have ne : b ∉ [a] := fun q => by
      rw [List.mem_singleton.mp q] at h
      have : Fr F1 G (.ref a) D := A
      have e := Fr.fn (F0 := F1) (F1 := E0h) A (.lst h rfl hs.rp)
      rw [e] at z
      omega
    exact .lst (by rw [hid_out ne]; exact h) n (FrL.off A hs (by simp at z; omega))
  | _, _, .tup (a := b) (ds := ds) h hs, z => by
    have ne : b ∉ [a] := fun q => by
      rw [List.mem_singleton.mp q] at h
      have e := Fr.fn (F0 := F1) (F1 := E0h) A (.tup h hs.rp)
      rw [e] at z
      omega
    exact .tup (by rw [hid_out ne]; exact h) (FrL.off A hs (by simp at z; omega))
  | _, _, .dic (a := b) (ds := ds) h n hs, z => by
    have ne : b ∉ [a] := fun q => by
      rw [List.mem_singleton.mp q] at h
      have e := Fr.fn (F0 := F1) (F1 := F0) A (.dic h (List.mem_singleton.mp q ▸ n) hs)
      rw [e] at z
      omega
    exact .dic (by unfold Rd; rw [hid_out ne]; exact h) n (FrK.off A hs (by simp at z; omega))
theorem FrL.off {F0 F1 G : Hp} {a : Addr} {D : PyData} (A : Fr F1 G (.ref a) D) : ∀ {v : List V} {d : List PyData}, FrL F0 G v d → sizeOf d < sizeOf D → FrL F0 (hid G [a]) v d
  | _, _, .nil, _ => .nil
  | _, _, .cons h hs, z => .cons (Fr.off A h (by simp at z; omega)) (FrL.off A hs (by simp at z; omega))
theorem FrK.off {F0 F1 G : Hp} {a : Addr} {D : PyData} (A : Fr F1 G (.ref a) D) : ∀ {v : List (Key × V)} {d : List (PyData × PyData)}, FrK F0 G v d → sizeOf d < sizeOf D → FrK F0 (hid G [a]) v d
  | _, _, .nil, _ => .nil
  | _, _, .cons h hs, z => .cons (Fr.off A h (by simp at z; omega)) (FrK.off A hs (by simp at z; omega))
end
section
variable {ms : List Addr} {H0 F0 G G1 H H' : Hp} {cs : List (Addr × HO)} {p q a : Addr} {o o' : HO} {vs us : List V} {ds : List PyData}
theorem Sep.start1 (h : H p = some (.lst us)) : Sep [p] H (hid H [p]) H [(p, .lst us)] :=
  Sep.startM H [(p, .lst us)] (fun c hc => by
    rw [List.mem_singleton.mp hc]
    exact ⟨h, lst_tup⟩) (List.nodup_cons.mpr ⟨List.not_mem_nil, List.nodup_nil⟩)
theorem Sep.start2 (h : H p = some (.lst us)) (k : H q = some (.lst vs)) (n : p ≠ q) : Sep [p, q] H (hid H [p, q]) H [(p, .lst us), (q, .lst vs)] :=
  Sep.startM H [(p, .lst us), (q, .lst vs)] (fun c hc => by
    rcases List.mem_cons.mp hc with z | z
    · rw [z]
      exact ⟨h, lst_tup⟩
    · rw [List.mem_singleton.mp z]
      exact ⟨k, lst_tup⟩) (List.nodup_cons.mpr ⟨fun z => n (List.mem_singleton.mp z), List.nodup_cons.mpr ⟨List.not_mem_nil, List.nodup_nil⟩⟩)
theorem Sep.hid1 (S : Sep ms H0 G H cs) (i : Nat) (h : cs[i]? = some (p, o)) : Same G (hid H [p]) := S.hidS fun b hb => by
  rw [List.mem_singleton.mp hb]
  exact S.gnone i h
theorem Sep.rdh (S : Sep ms H0 G H cs) (j : Nat) (hj : cs[j]? = some (q, .lst vs)) (i : Nat) (hi : cs[i]? = some (p, o)) (n : j ≠ i) (f : FrL F0 G vs ds) : Fr E0h (hid H [p]) (.ref q) (.list ds) :=
  .lst (by rw [hid_out fun z => S.ne hj hi n (List.mem_singleton.mp z)]; exact S.get j hj) rfl ((f.rp).same (S.hid1 i hi))
theorem Sep.ret0O (S : Sep ms H0 G H cs) (R : Ret [] H G1 H') (f : Fr H G1 (.ref a) (.list ds)) : ∃ G' vs, Sep ms H0 G' H' ((a, .lst vs) :: cs) ∧ Same G G' ∧ H0 a = none ∧ FrL H0 G' vs ds := by
  obtain ⟨G2, S2, s2, t2, _⟩ := S.ret0 R
  have f2 := t2 _ _ f
  obtain ⟨vs, h1, h2⟩ := li f2
  have n0 := li0 f2
  have ga : G a = none := S.gfree (li0 f)
  have out : ∀ b, b ≠ a → hid G2 [a] b = G2 b := fun b hb => hid_out fun z => hb (List.mem_singleton.mp z)
  refine ⟨hid G2 [a], vs, ⟨fun b o e => S2.sub b o (hid_some e).2, fun c hc => ?_, List.nodup_cons.mpr ⟨fun z => ?_, S2.nd⟩, fun p hp => List.mem_cons_of_mem _ (S2.msc p hp), S2.hms, S2.old, fun b o e n => ?_, fun b xs e => ?_⟩, fun b o e => ?_, n0, FrL.off f2 h2 (by simp)⟩
  · rcases List.mem_cons.mp hc with z | z
    · rw [z]
      exact ⟨S2.sub _ _ h1, hid_in (List.mem_singleton.mpr rfl), lst_tup⟩
    · obtain ⟨k1, k2, k3⟩ := S2.cel c z
      refine ⟨k1, ?_, k3⟩
      by_cases e : c.1 = a
      · exact hid_in (List.mem_singleton.mpr e)
      · rw [out _ e]
        exact k2
  · obtain ⟨c, hc, e⟩ := List.mem_map.mp z
    have := (S2.cel c hc).2.1
    rw [e, h1] at this
    cases this
  · rw [out b fun z => by rw [z, n0] at e; cases e]
    exact S2.base b o e n
  · have g := S2.tups b xs e
    rw [out b fun z => by rw [z, h1] at g; cases g]
    exact g
  · rw [out b fun z => by rw [z, ga] at e; cases e]
    exact s2 b o e
end
end LQ

/-! The script; sorted rows; counts; things looked for in lists; dicts that are read. -/
namespace LQ
open PySem PySem.Spec PyProof.Rows L2 LX
section
variable {ms : List Addr} {F0 H0 G G' H H' : Hp} {cs : List (Addr × HO)} {a b : Addr} {vs us : List V} {K : PySem.W.Frag} {P : Program} {w : World} {Q : VK} {d : PyData} {v x y : V} {α β : Type} {e : α → PyData}
/-! ### the script -/
theorem q_slScr {lo hi : Option Int} {ns : List Int} (S : Sep ms H0 G H cs) (f : Scr K G a ns) (q : ∀ p G' H', Sep ms H0 G' H' cs → Same G G' → Fr H0 G' (.ref p) (eL eI (cutL ns lo hi)) → Q (.ref p) H') : rSlL K (.ref a) lo hi H Q := by
  refine ⟨a, _, rfl, (f.same S.sub).seq, ?_⟩
  rw [cutL_map]
  exact q_new S (ints_frl _) S.old q
theorem q_slScrO {lo hi : Option Int} {ns : List Int} (S : Sep ms H0 G H cs) (f : Scr K G a ns) (q : ∀ p us H', Sep ms H0 G H' ((p, .lst us) :: cs) → H0 p = none → FrL H0 G us ((cutL ns lo hi).map eI) → Q (.ref p) H') : rSlL K (.ref a) lo hi H Q := by
  refine ⟨a, _, rfl, (f.same S.sub).seq, ?_⟩
  rw [cutL_map]
  exact q_newO S fun p H' S' n => q p _ H' S' n (ints_frl _)
theorem q_lenScr {ns : List Int} (S : Sep ms H0 G H cs) (f : Scr K G a ns) (q : Q (.int (lenI ns)) H) : qLen K [.ref a] H Q :=
  ⟨a, _, rfl, Or.inl (f.same S.sub).seq, by rw [List.length_map]; exact q⟩
theorem q_catScr {ns ms' r : List Int} (S : Sep ms H0 G H cs) (f : Scr K G a ns) (hb : H b = some (.lst us)) (f2 : FrL F0 G us (ms'.map eI)) (h : catF ns ms' = some r) (q : ∀ p G' H', Sep ms H0 G' H' cs → Same G G' → Fr H0 G' (.ref p) (eL eI r) → Q (.ref p) H') : rCatL K (.ref a) (.ref b) H Q := by
  obtain ⟨h1, rfl⟩ := cat_ok h
  refine ⟨a, b, _, us, rfl, rfl, (f.same S.sub).seq, SqL.of hb, lim_le (by rw [List.length_map, f2.len, List.length_map]; exact h1), ?_⟩
  rw [frl_ints f2, ← List.map_append]
  exact q_new S (ints_frl _) S.old q
theorem q_catL {ns ms' r : List Int} {F1 : Hp} (S : Sep ms H0 G H cs) (ha : H a = some (.lst vs)) (f : FrL F1 G vs (ns.map eI)) (hb : H b = some (.lst us)) (f2 : FrL F0 G us (ms'.map eI)) (h : catF ns ms' = some r) (q : ∀ p G' H', Sep ms H0 G' H' cs → Same G G' → Fr H0 G' (.ref p) (eL eI r) → Q (.ref p) H') : rCatL K (.ref a) (.ref b) H Q := by
  obtain ⟨h1, rfl⟩ := cat_ok h
  refine ⟨a, b, vs, us, rfl, rfl, SqL.of ha, SqL.of hb, lim_le (by rw [f.len, f2.len, List.length_map, List.length_map]; exact h1), ?_⟩
  rw [frl_ints f, frl_ints f2, ← List.map_append]
  exact q_new S (ints_frl _) S.old q
theorem q_ixScr {ns : List Int} {i x : Int} (S : Sep ms H0 G H cs) (f : Scr K G a ns) (h : ix ns i = some x) (q : Q (.int x) H) : rIxL K (.ref a) (.int i) H Q := by
  refine ⟨a, _, i, _, rfl, rfl, (f.same S.sub).seq, ?_, q⟩
  unfold ix atI at h
  obtain ⟨j, h1, h2⟩ := Option.bind_eq_some_iff.mp h
  unfold atI
  rw [List.length_map, h1]
  show (ns.map V.int)[j]? = _
  rw [List.getElem?_map, h2]
  rfl
theorem q_eqScr {ns : List Int} {m : List Int} {c : Bool} (S : Sep ms H0 G H cs) (f : Scr K G a ns) (g : Fr F0 H y (eL eI m)) (h : eqvF (eL eI ns) (eL eI m) = some c) (q : Q (.bl c) H) : rEqD K (.ref a) y H Q := by
  obtain ⟨h1, h2, h3, h4, h5⟩ := eqv_ok h
  exact ⟨_, _, .lst (f.same S.sub).seq (dp_ints ns), g.dp h4, h1, h2, by rw [h5]; exact q⟩
theorem w_scr {ns : List Int} (f : Scr K G a ns) : Walk (Itl K a) ns.length (fun H => SqL K H a (ns.map V.int)) (fun i H v H' => H' = H ∧ ∀ x, ns[i]? = some x → v = .int x) := by
  have h : ns.length = (ns.map V.int).length := by rw [List.length_map]
  rw [h]
  refine walk_list.mono (fun _ h => h) fun i H x H' _ _ y => ⟨y.1, fun z hz => ?_⟩
  have := y.2
  rw [List.getElem?_map, hz] at this
  exact (Option.some.inj this).symm
/-! ### sorted rows -/
abbrev encIS (e : Int × Str) : List PyData := [.int e.1, .str e.2]
theorem srtIS : Srt1 encIS where
  alike := fun x y => by simp [PySem.W.alike, PySem.W.alikeAll]
  first := fun x => ⟨_, _, rfl⟩
  flat := fun x => by simp [PyData.depth, PyData.depthAll]
def leIS (x y : Int × Str) : Bool := leD encIS x y
theorem leIS_is (x y : Int × Str) : leIS x y = if y.1 = x.1 then (if y.2 = x.2 then true else !decide (y.2.cps.toList < x.2.cps.toList)) else !decide (y.1 < x.1) := by
  show (!PySem.W.dataLt (.tuple (encIS y)) (.tuple (encIS x))) = _
  rw [PySem.W.dataLt_pair (by simp [PySem.W.alike]) (by simp [PySem.W.alike]), PySem.W.dataLt_int, PySem.W.dataLt_str]
  simp only [PyData.eqv, beq_iff_eq]
  by_cases h : y.1 = x.1
  · rw [if_pos h, if_pos h]
    by_cases k : y.2 = x.2
    · rw [if_pos k, if_pos k]
      rfl
    · rw [if_neg k, if_neg k]
  · rw [if_neg h, if_neg h]
theorem leIS_anti {x y : Int × Str} (h : leIS x y = true) (k : leIS y x = true) : x = y := by
  rw [leIS_is] at h k
  by_cases c : x.1 = y.1
  · rw [if_pos c.symm] at h
    rw [if_pos c] at k
    by_cases c2 : x.2 = y.2
    · exact Prod.ext c c2
    · rw [if_neg (fun z => c2 z.symm), Bool.not_eq_true', decide_eq_false_iff_not] at h
      rw [if_neg c2, Bool.not_eq_true', decide_eq_false_iff_not] at k
      exact absurd (str_ext (List.le_antisymm (List.not_lt.mp h) (List.not_lt.mp k))) c2
  · rw [if_neg (fun z => c z.symm), Bool.not_eq_true', decide_eq_false_iff_not] at h
    rw [if_neg c, Bool.not_eq_true', decide_eq_false_iff_not] at k
    omega
def sortR (l : List (Int × Str)) : List (Int × Str) := l.mergeSort leIS
def sortRF (l : List (Int × Str)) : Option (List (Int × Str)) := cond (decide (l.length ≤ 900)) (some (sortR l)) none
theorem sortR_pw (l : List (Int × Str)) : (sortR l).Pairwise fun x y => leIS x y = true := by
  have := PySem.W.sort_pairwise (PySem.W.sortLe_total (PyProof.Rows.listOrd PyProof.Rows.itemOrd) false fun b : Int × Str => PySem.W.keyToks (PyData.tuple (encIS b))) l
  exact this
theorem sortR_is {l ys : List (Int × Str)} (p : ys.Perm l) (h : ys.Pairwise fun x y => leIS x y = true) : ys = sortR l :=
  List.Perm.eq_of_pairwise (fun a b _ _ x y => leIS_anti x y) h (sortR_pw l) (p.trans (List.mergeSort_perm _ _).symm)
theorem frl_ts {l : List (Int × Str)} (f : FrL F0 G vs (l.map (eT2 eI eS))) : ∃ ts : List Addr, vs = ts.map V.ref ∧ TsAt (fun e : Int × Str => [.int e.1, .str e.2]) G ts l := by
  induction l generalizing vs with
  | nil =>
    cases f
    exact ⟨[], rfl, True.intro⟩
  | cons x l ih =>
    cases f with
    | cons f1 hs =>
      obtain ⟨ts, rfl, h⟩ := ih hs
      obtain ⟨t, rfl⟩ := fr_tup f1
      obtain ⟨v1, v2, h1, g1, g2⟩ := tu2 f1
      cases fr_int g1
      cases fr_str g2
      exact ⟨t :: ts, rfl, h1, h⟩
theorem ts_frl : ∀ {ts : List Addr} {l : List (Int × Str)}, TsAt (fun e : Int × Str => [.int e.1, .str e.2]) G ts l → FrL F0 G (ts.map V.ref) (l.map (eT2 eI eS))
  | [], [], _ => .nil
  | _ :: ts, _ :: l, h => .cons (.tup h.1 (.cons (.int _) (.cons (.str _) .nil))) (ts_frl (ts := ts) (l := l) h.2)
  | [], _ :: _, h => h.elim
  | _ :: _, [], h => h.elim
theorem ts_sub {m : α → List V} : ∀ {ts : List Addr} {l : List α}, TsAt m G ts l → Same G G' → TsAt m G' ts l
  | [], [], _, _ => True.intro
  | _ :: ts, _ :: l, h, s => ⟨s _ _ h.1, ts_sub (ts := ts) (l := l) h.2 s⟩
  | [], _ :: _, h, _ => h.elim
  | _ :: _, [], h, _ => h.elim
theorem ts_back {m : α → List V} (S : Sep ms H0 G H cs) : ∀ {us : List Addr} {ys : List α}, TsAt m H us ys → TsAt m G us ys
  | [], [], _ => True.intro
  | u :: us, _ :: ys, h => ⟨S.tups _ _ h.1, ts_back S (us := us) (ys := ys) h.2⟩
  | [], _ :: _, h => h.elim
  | _ :: _, [], h => h.elim
theorem q_sortR {l r : List (Int × Str)} (S : Sep ms H0 G H cs) (h : H a = some (.lst vs)) (f : FrL F0 G vs (l.map (eT2 eI eS))) (k : sortRF l = some r) (q : ∀ p G' H', Sep ms H0 G' H' cs → Same G G' → Fr H0 G' (.ref p) (eL (eT2 eI eS) r) → Q (.ref p) H') :
    rSortT (fun e : Int × Str => [.int e.1, .str e.2]) encIS K [.ref a] H Q := by
  unfold sortRF at k
  obtain ⟨k1, k2⟩ := grd k
  have k1 := of_decide_eq_true k1
  cases som k2
  obtain ⟨ts, rfl, ht⟩ := frl_ts f
  refine ⟨a, ts, l, rfl, SqL.of h, ts_sub ht S.sub, fun e => .cons (.int _) (.cons (.str _) .nil), by omega, fun p us ys hp pm pw hU => ?_⟩
  have e := sortR_is pm pw
  subst e
  exact q p _ _ (S.sh hp) (sNew (S.gfree hp)) (.lst upd_same (S.old p hp) (ts_frl (ts_sub (ts_back S hU) (sNew (S.gfree hp)))))
end
end LQ

/-! Dicts by what they hold. -/
namespace LQ
open PySem PySem.Spec PyProof.Rows L2 LX
abbrev kI (i : Int) : Key := .inl i
abbrev kS (s : Str) : Key := .inr s
theorem kI_inj (a b : Int) (h : kI a = kI b) : a = b := Sum.inl.inj h
theorem kS_inj (a b : Str) (h : kS a = kS b) : a = b := Sum.inr.inj h
section
variable {κ α : Type} [DecidableEq κ]
def dget (l : List (κ × α)) (k : κ) : Option α := (l.find? fun p => decide (p.1 = k)).map (·.2)
def dput (l : List (κ × α)) (k : κ) (x : α) : List (κ × α) := if (l.any fun p => decide (p.1 = k)) = true then l.map (fun p => if p.1 = k then (p.1, x) else p) else l ++ [(k, x)]
def dputF (l : List (κ × α)) (k : κ) (x : α) : Option (List (κ × α)) := cond (decide (l.length < LIM)) (some (dput l k x)) none
def dhas (l : List (κ × α)) (k : κ) : Bool := (dget l k).isSome
/-- later pairs win -/
def dmerge (l m : List (κ × α)) : List (κ × α) := m.foldl (fun acc p => dput acc p.1 p.2) l
def dkeys (l : List (κ × α)) : List κ := l.map (·.1)
end
@[reducible] def eD {κ α : Type} (kk : κ → Key) (e : α → PyData) (l : List (κ × α)) : PyData := .dict (l.map fun p => (dKey (kk p.1), e p.2))
section
variable {κ α : Type} [DecidableEq κ] {kk : κ → Key} {e : α → PyData} {F0 H0 G G' H H' : Hp} {kvs : List (Key × V)} {l : List (κ × α)} {k : κ} {x : α} {v y : V} {a b : Addr} {ms : List Addr} {cs : List (Addr × HO)} {Q : VK} {K : PySem.W.Frag}
theorem dkey_inj {k k' : Key} (h : dKey k = dKey k') : k = k' := by
  cases k <;> cases k' <;> simp [dKey] at h <;> rw [h]
theorem di {ds : List (PyData × PyData)} (f : Fr F0 G (.ref a) (.dict ds)) : ∃ kvs, Rd G a (.dK kvs) ∧ FrK F0 G kvs ds := by
  cases f with
  | dic h _ hs => exact ⟨_, h, hs⟩
theorem di0 {ds : List (PyData × PyData)} (f : Fr F0 G (.ref a) (.dict ds)) : F0 a = none := by
  cases f with
  | dic _ n _ => exact n
theorem frk_cons {p : κ × α} (f : FrK F0 G kvs ((p :: l).map fun p => (dKey (kk p.1), e p.2))) : ∃ v r, kvs = (kk p.1, v) :: r ∧ Fr F0 G v (e p.2) ∧ FrK F0 G r (l.map fun p => (dKey (kk p.1), e p.2)) := by
  rw [List.map_cons] at f
  generalize hd : (dKey (kk p.1), e p.2) = d at f
  cases f with
  | cons f1 hs =>
    injection hd with h1 h2
    rw [dkey_inj h1]
    exact ⟨_, _, rfl, h2 ▸ f1, hs⟩
theorem frk_len : ∀ {l : List (κ × α)} {kvs : List (Key × V)}, FrK F0 G kvs (l.map fun p => (dKey (kk p.1), e p.2)) → kvs.length = l.length
  | [], _, .nil => rfl
  | p :: l, _, f => by
    obtain ⟨v, r, rfl, _, hs⟩ := frk_cons f
    exact congrArg (· + 1) (frk_len hs)
theorem frk_keys : ∀ {l : List (κ × α)} {kvs : List (Key × V)}, FrK F0 G kvs (l.map fun p => (dKey (kk p.1), e p.2)) → kvs.map (·.1) = l.map fun p => kk p.1
  | [], _, .nil => rfl
  | p :: l, _, f => by
    obtain ⟨v, r, rfl, _, hs⟩ := frk_cons f
    rw [List.map_cons, List.map_cons, frk_keys hs]
theorem frk_get (hk : ∀ a b, kk a = kk b → a = b) : ∀ {l : List (κ × α)} {kvs : List (Key × V)}, FrK F0 G kvs (l.map fun p => (dKey (kk p.1), e p.2)) → (∃ x v, dget l k = some x ∧ valV kvs (kk k) = some v ∧ Fr F0 G v (e x)) ∨ (dget l k = none ∧ valV kvs (kk k) = none)
  | [], _, .nil => Or.inr ⟨rfl, rfl⟩
  | p :: l, _, f => by
    obtain ⟨v, r, rfl, f1, hs⟩ := frk_cons f
    by_cases c : p.1 = k
    · refine Or.inl ⟨p.2, v, ?_, valV_pos (congrArg kk c), f1⟩
      unfold dget
      rw [List.find?_cons_of_pos (by simpa using c)]
      rfl
    · have h1 : dget (p :: l) k = dget l k := by
        unfold dget
        rw [List.find?_cons_of_neg (by simpa using c)]
      have h2 : valV ((kk p.1, v) :: r) (kk k) = valV r (kk k) := valV_neg fun z => c (hk _ _ z)
      rw [h1, h2]
      exact frk_get hk hs
theorem frk_any (hk : ∀ a b, kk a = kk b → a = b) : ∀ {l : List (κ × α)} {kvs : List (Key × V)}, FrK F0 G kvs (l.map fun p => (dKey (kk p.1), e p.2)) → (kvs.any fun kv => decide (kv.1 = kk k)) = l.any fun p => decide (p.1 = k)
  | [], _, .nil => rfl
  | p :: l, _, f => by
    obtain ⟨v, r, rfl, f1, hs⟩ := frk_cons f
    rw [List.any_cons, List.any_cons, frk_any hk hs]
    congr 1
    by_cases c : p.1 = k
    · rw [decide_eq_true (congrArg kk c), decide_eq_true c]
    · rw [decide_eq_false fun z => c (hk _ _ z), decide_eq_false c]
theorem frk_app : ∀ {l m : List (κ × α)} {kvs lvs : List (Key × V)}, FrK F0 G kvs (l.map fun p => (dKey (kk p.1), e p.2)) → FrK F0 G lvs (m.map fun p => (dKey (kk p.1), e p.2)) → FrK F0 G (kvs ++ lvs) ((l ++ m).map fun p => (dKey (kk p.1), e p.2))
  | [], _, _, _, .nil, g => g
  | p :: l, m, _, _, f, g => by
    obtain ⟨v, r, rfl, f1, hs⟩ := frk_cons f
    exact .cons f1 (frk_app hs g)
theorem frk_put (hk : ∀ a b, kk a = kk b → a = b) (f : FrK F0 G kvs (l.map fun p => (dKey (kk p.1), e p.2))) (g : Fr F0 G v (e x)) : FrK F0 G (putK kvs (kk k) v) ((dput l k x).map fun p => (dKey (kk p.1), e p.2)) := by
  unfold L2.putK dput
  rw [frk_any hk f]
  split
  · rename_i hany
    clear hany
    induction l generalizing kvs with
    | nil =>
      cases f
      exact .nil
    | cons p l ih =>
      obtain ⟨w, r, rfl, f1, hs⟩ := frk_cons f
      rw [List.map_cons, List.map_cons, List.map_cons]
      by_cases c : p.1 = k
      · rw [if_pos c, if_pos (show ((kk p.1, w) : Key × V).1 = kk k from congrArg kk c)]
        exact .cons g (ih hs)
      · rw [if_neg c, if_neg (fun z => c (hk _ _ z))]
        exact .cons f1 (ih hs)
  · exact frk_app f (.cons g .nil)
theorem frk_merge (hk : ∀ a b, kk a = kk b → a = b) : ∀ {m l : List (κ × α)} {lvs kvs : List (Key × V)}, FrK F0 G kvs (l.map fun p => (dKey (kk p.1), e p.2)) → FrK F0 G lvs (m.map fun p => (dKey (kk p.1), e p.2)) → FrK F0 G (mergeK kvs lvs) ((dmerge l m).map fun p => (dKey (kk p.1), e p.2))
  | [], _, _, _, f, .nil => f
  | p :: m, l, _, kvs, f, g => by
    obtain ⟨v, r, rfl, f1, hs⟩ := frk_cons g
    have h := frk_merge (m := m) (l := dput l p.1 p.2) (kvs := L2.putK kvs (kk p.1) v) hk (frk_put (k := p.1) (x := p.2) hk f f1) hs
    exact h
theorem FrK.same {vs : List (Key × V)} {ds : List (PyData × PyData)} (h : FrK H0 H vs ds) (s : Same H H') : FrK H0 H' vs ds := h.move (fun _ _ e n => ⟨s _ _ e, n⟩) (fun _ _ e => s _ _ e) fun _ _ e n => ⟨rd_same e s, n⟩
theorem FrK.rp {vs : List (Key × V)} {ds : List (PyData × PyData)} (h : FrK H0 H vs ds) : FrK E0h H vs ds := h.move (fun _ _ e _ => ⟨e, rfl⟩) (fun _ _ e => e) fun _ _ e _ => ⟨e, rfl⟩
/-! readings -/
def zDGet (x y : V) (H : Hp) (Q : VK) : Prop := ∃ a v, x = .ref a ∧ DGet H a y (some v) ∧ Q v H
theorem rd_dget {td ty : TE} {σ : L2.St} (q : td σ H fun x H1 => ty σ H1 fun y H2 => zDGet x y H2 Q) : tDGet td ty σ H Q := q
def zDIn (y x : V) (H : Hp) (Q : VK) : Prop := ∃ a o, x = .ref a ∧ DGet H a y o ∧ Q (.bl o.isSome) H
def zDNotIn (y x : V) (H : Hp) (Q : VK) : Prop := ∃ a o, x = .ref a ∧ DGet H a y o ∧ Q (.bl (!o.isSome)) H
theorem rd_dinZ {td ty : TE} {σ : L2.St} (q : ty σ H fun y H1 => td σ H1 fun x H2 => zDIn y x H2 Q) : tDIn ty td σ H Q := q
theorem rd_dniZ {td ty : TE} {σ : L2.St} (q : ty σ H fun y H1 => td σ H1 fun x H2 => zDNotIn y x H2 Q) : tDNotIn ty td σ H Q := q
def zDPut (v x y : V) (H : Hp) (R : Hp → Prop) : Prop := ∃ a H4, x = .ref a ∧ DPut H a y v H4 ∧ R H4
theorem rd_dputZ {td ty tv : TE} {σ : L2.St} {D : Ends} (q : tv σ H fun v H1 => td σ H1 fun x H2 => ty σ H2 fun y H3 => zDPut v x y H3 fun H4 => D.nx σ H4) : sDPut td ty tv D σ H := q
theorem kV_I (i : Int) : kV (kI i) = .int i := rfl
theorem kV_S (i : Str) : kV (kS i) = .str i := rfl
theorem q_dget (hk : ∀ a b, kk a = kk b → a = b) (h : Rd H a (.dK kvs)) (f : FrK F0 G kvs (l.map fun p => (dKey (kk p.1), e p.2))) (ey : y = kV (kk k)) (hx : dget l k = some x) (q : ∀ v, Fr F0 G v (e x) → Q v H) : zDGet (.ref a) y H Q := by
  rcases frk_get (k := k) hk f with ⟨x', v, h1, h2, h3⟩ | ⟨h1, _⟩
  · rw [hx] at h1
    cases h1
    exact ⟨a, v, rfl, Or.inl ⟨kvs, kk k, h, ey, h2.symm⟩, q v h3⟩
  · rw [hx] at h1
    cases h1
theorem dhas_val (hk : ∀ a b, kk a = kk b → a = b) (f : FrK F0 G kvs (l.map fun p => (dKey (kk p.1), e p.2))) : (valV kvs (kk k)).isSome = dhas l k := by
  unfold dhas
  rcases frk_get (k := k) hk f with ⟨x', v, h1, h2, h3⟩ | ⟨h1, h2⟩ <;> rw [h1, h2] <;> rfl
theorem q_din (hk : ∀ a b, kk a = kk b → a = b) (h : Rd H a (.dK kvs)) (f : FrK F0 G kvs (l.map fun p => (dKey (kk p.1), e p.2))) (ey : y = kV (kk k)) (q : Q (.bl (dhas l k)) H) : zDIn y (.ref a) H Q :=
  ⟨a, _, rfl, Or.inl ⟨kvs, kk k, h, ey, rfl⟩, by rw [dhas_val hk f]; exact q⟩
theorem q_dni (hk : ∀ a b, kk a = kk b → a = b) (h : Rd H a (.dK kvs)) (f : FrK F0 G kvs (l.map fun p => (dKey (kk p.1), e p.2))) (ey : y = kV (kk k)) (q : Q (.bl (!dhas l k)) H) : zDNotIn y (.ref a) H Q :=
  ⟨a, _, rfl, Or.inl ⟨kvs, kk k, h, ey, rfl⟩, by rw [dhas_val hk f]; exact q⟩
theorem q_dput {r : List (κ × α)} {R : Hp → Prop} (hk : ∀ a b, kk a = kk b → a = b) (S : Sep ms H0 G H cs) (i : Nat) (hi : cs[i]? = some (a, .dK kvs)) (f : FrK F0 G kvs (l.map fun p => (dKey (kk p.1), e p.2))) (ey : y = kV (kk k)) (fv : Fr F0 G v (e x)) (h : dputF l k x = some r)
    (q : ∀ us H', Sep ms H0 G H' (cs.set i (a, .dK us)) → FrK F0 G us (r.map fun p => (dKey (kk p.1), e p.2)) → R H') : zDPut v (.ref a) y H R := by
  unfold dputF at h
  obtain ⟨h1, h2⟩ := grd h
  cases som h2
  exact ⟨a, _, rfl, Or.inl ⟨kvs, kk k, S.get i hi, ey, lim_lt (by rw [frk_len f]; exact of_decide_eq_true h1), rfl⟩, q _ _ (S.put i hi dk_tup) (frk_put hk f fv)⟩
def zDNew (H : Hp) (Q : VK) : Prop := ∀ p, H p = none → Q (.ref p) (upd H p (.dK []))
theorem rd_dnewZ {σ : L2.St} (q : zDNew H Q) : tDNewK σ H Q := q
theorem q_dnewO (S : Sep ms H0 G H cs) (q : ∀ p H', Sep ms H0 G H' ((p, .dK []) :: cs) → H0 p = none → Q (.ref p) H') : zDNew H Q := fun p hp => q p _ (S.own hp dk_tup) (S.old p hp)
/-- an owned dict is only read from here on -/
theorem Sep.fixD {ds : List (PyData × PyData)} (S : Sep ms H0 G H cs) (i : Nat) (h : cs[i]? = some (a, .dK kvs)) (hm : a ∉ ms) (f : FrK F0 G kvs ds) (n : F0 a = none) : ∃ G', Sep ms H0 G' H (cs.eraseIdx i) ∧ Same G G' ∧ Fr F0 G' (.ref a) (.dict ds) :=
  ⟨_, S.fix i h hm, sNew (S.gnone i h), .dic (Or.inl upd_same) n (f.same (sNew (S.gnone i h)))⟩
/-- an owned dict, read -/
theorem Sep.rdD {ds : List (PyData × PyData)} (S : Sep ms H0 G H cs) (i : Nat) (h : cs[i]? = some (a, .dK kvs)) (f : FrK F0 G kvs ds) : Fr E0h H (.ref a) (.dict ds) := .dic (Or.inl (S.get i h)) rfl ((f.rp).same S.sub)
def zLenD : List V → Hp → VK → Prop := fun xs H Q => ∃ a kvs, xs = [.ref a] ∧ Rd H a (.dK kvs) ∧ Q (.int (kvs.length : Int)) H
/-! a dict that is walked: it is known to the object from there on -/
def zFrz (x : V) (H : Hp) (R : V → Hp → Prop) : Prop := (∃ d u, x = .ref d ∧ H d = some u ∧ Mut (some u) ∧ ∀ od, R (.ref d) (upd H d (.frz od u))) ∨ ∃ d od u, x = .ref d ∧ H d = some (.frz od u) ∧ R (.ref d) H
def tFrzE (td : TE) : TE := fun σ H Q => td σ H fun x H1 => zFrz x H1 Q
theorem pe_frz {X : Cx} {ex : Expr} {td : TE} (h : PE X ex td) : PE X ex (tFrzE td) := by
  refine ⟨fun pins s σ H Q I hw => ?_⟩
  refine thn (h.run pins s σ H _ I hw) fun v s1 ⟨x, H1, I1, r, q⟩ => ?_
  rcases q with ⟨d, u, rfl, hd, mu, q⟩ | ⟨d, od, u, rfl, hd, q⟩
  · obtain ⟨od, I2⟩ := I1.lock hd mu
    exact ⟨.ref d, _, I2, r, q od⟩
  · exact ⟨.ref d, H1, I1, r, q⟩
theorem rd_frz {td : TE} {σ : L2.St} (q : td σ H fun x H1 => zFrz x H1 Q) : tFrzE td σ H Q := q
def FrzG (G : Hp) (d : Addr) (G' : Hp) : Prop := ∃ od kvs, G d = some (.dK kvs) ∧ G' = upd G d (.frz od (.dK kvs))
theorem FrzG.rd {d : Addr} (h : FrzG G d G') {a : Addr} {us : List (Key × V)} (r : Rd G a (.dK us)) : Rd G' a (.dK us) := by
  obtain ⟨od, kvs, h1, rfl⟩ := h
  by_cases c : a = d
  · subst c
    rcases r with r | ⟨o, r⟩
    · rw [h1] at r
      cases r
      exact Or.inr ⟨od, upd_same⟩
    · rw [h1] at r
      cases r
  · unfold Rd
    rw [upd_ne c]
    exact r
theorem FrzG.oth {d : Addr} (h : FrzG G d G') {a : Addr} {o : HO} (e : G a = some o) (n : ∀ kvs, o ≠ .dK kvs) : G' a = some o := by
  obtain ⟨od, kvs, h1, rfl⟩ := h
  have c : a ≠ d := fun z => by
    subst z
    rw [h1] at e
    exact n kvs (Option.some.inj e).symm
  rw [upd_ne c]
  exact e
theorem Fr.frz {d : Addr} {v : V} {x : PyData} (f : Fr F0 G v x) (h : FrzG G d G') : Fr F0 G' v x := f.move (fun _ _ e n => ⟨h.oth e (fun _ z => by cases z), n⟩) (fun _ _ e => h.oth e fun _ z => by cases z) fun _ _ e n => ⟨h.rd e, n⟩
theorem FrL.frz {d : Addr} {v : List V} {x : List PyData} (f : FrL F0 G v x) (h : FrzG G d G') : FrL F0 G' v x := f.move (fun _ _ e n => ⟨h.oth e (fun _ z => by cases z), n⟩) (fun _ _ e => h.oth e fun _ z => by cases z) fun _ _ e n => ⟨h.rd e, n⟩
theorem FrK.frz {d : Addr} {v : List (Key × V)} {x : List (PyData × PyData)} (f : FrK F0 G v x) (h : FrzG G d G') : FrK F0 G' v x := f.move (fun _ _ e n => ⟨h.oth e (fun _ z => by cases z), n⟩) (fun _ _ e => h.oth e fun _ z => by cases z) fun _ _ e n => ⟨h.rd e, n⟩
theorem _root_.LX.Scr.frz {d : Addr} {ns : List Int} {l : Addr} (f : Scr K G l ns) (h : FrzG G d G') : Scr K G' l ns := by
  rcases f with ⟨o, f⟩ | f
  · exact Or.inl ⟨o, h.oth f fun _ z => by cases z⟩
  · exact Or.inr f
/-- the walk over a dict that is held -/
theorem q_frz {R : V → Hp → Prop} (S : Sep ms H0 G H cs) (n : H0 a = none) (h : Rd G a (.dK kvs)) (q : ∀ od G' H', Sep ms H0 G' H' cs → (G' = G ∨ FrzG G a G') → H' a = some (.frz od (.dK kvs)) → G' a = some (.frz od (.dK kvs)) → R (.ref a) H') : zFrz (.ref a) H R := by
  rcases h with h | ⟨od, h⟩
  · refine Or.inl ⟨a, _, rfl, S.sub _ _ h, True.intro, fun od => q od (upd G a (.frz od (.dK kvs))) _ ?_ (Or.inr ⟨od, kvs, h, rfl⟩) upd_same upd_same⟩
    have ac : ∀ c ∈ cs, c.1 ≠ a := fun c hc z => by
      have := (S.cel c hc).2.1
      rw [z, h] at this
      cases this
    refine ⟨fun b u e => ?_, fun c hc => ?_, S.nd, S.msc, S.hms, fun b e => ?_, fun b u e n' => ?_, fun b xs e => ?_⟩
    · by_cases c : b = a
      · subst c
        rw [upd_same] at e ⊢
        exact e
      · rw [upd_ne c] at e ⊢
        exact S.sub b u e
    · rw [upd_ne (ac c hc), upd_ne (ac c hc)]
      exact S.cel c hc
    · by_cases c : b = a
      · subst c
        rw [upd_same] at e
        cases e
      · rw [upd_ne c] at e
        exact S.old b e
    · have c : b ≠ a := fun z => by
        subst z
        rw [n] at e
        cases e
      rw [upd_ne c]
      exact S.base b u e n'
    · by_cases c : b = a
      · subst c
        rw [upd_same] at e
        cases e
      · rw [upd_ne c] at e ⊢
        exact S.tups b xs e
  · exact Or.inr ⟨a, od, _, rfl, S.sub _ _ h, q od G H S (Or.inl rfl) (S.sub _ _ h) h⟩
def zKeys (x : V) (H : Hp) (R : It → Hp → Prop) : Prop := ∃ d o, x = .ref d ∧ ((∃ kvs, H d = some (.frz o (.dK kvs)) ∧ R (Itk d o kvs) H) ∨ ∃ kvs, H d = some (.frz o (.dT kvs)) ∧ R (Itkt d o kvs) H)
theorem rd_iKeys {td : TE} {σ : L2.St} {R : It → Hp → Prop} (q : td σ H fun x H1 => zKeys x H1 R) : iKeys td σ H R := q
theorem q_keys {od : Obj} {R : It → Hp → Prop} (h : H a = some (.frz od (.dK kvs))) (q : R (Itk a od kvs) H) : zKeys (.ref a) H R := ⟨a, od, rfl, Or.inl ⟨kvs, h, q⟩⟩
theorem w_keys {od : Obj} {l : List (Str × α)} (f : FrK F0 G kvs (l.map fun p => (dKey (kS p.1), e p.2))) : Walk (Itk a od kvs) (dkeys l).length (fun H => H a = some (.frz od (.dK kvs))) (fun i H v H' => H' = H ∧ ∀ x, (dkeys l)[i]? = some x → v = .str x) := by
  have h : (dkeys l).length = kvs.length := by unfold dkeys; rw [List.length_map, frk_len f]
  rw [h]
  refine walk_keys.mono (fun _ h => h) fun i H x H' _ _ y => ⟨y.1, fun z hz => ?_⟩
  obtain ⟨k, v, h1, h2⟩ := y.2
  have h3 : (kvs.map (·.1))[i]? = some k := by rw [List.getElem?_map, h1]; rfl
  rw [frk_keys f, List.getElem?_map] at h3
  unfold dkeys at hz
  rw [List.getElem?_map] at hz
  obtain ⟨p, h4, h5⟩ := Option.map_eq_some_iff.mp hz
  rw [h4] at h3
  have h6 : kS p.1 = k := Option.some.inj h3
  rw [h2, ← h6, ← h5]
  rfl
end
end LQ
namespace LQ
open PySem PySem.Spec PyProof.Rows L2 LX
section
variable {X : Cx} {κ α : Type} [DecidableEq κ] {kk : κ → Key} {e : α → PyData} {F0 H0 G G' H H' : Hp} {kvs : List (Key × V)} {l : List (κ × α)} {k : κ} {x : α} {v y : V} {a b : Addr} {ms : List Addr} {cs : List (Addr × HO)} {Q : VK} {K : PySem.W.Frag} {vs : List V}
theorem klenD : CallR X (.builtin "len") zLenD := by
  intro pins s σ H xs us Q I r h
  obtain ⟨a, kvs, rfl, ha, q⟩ := h
  obtain ⟨u, rfl, ru⟩ := vals1 r
  cases ru
  exact d_len I ha fun t s' I' => ⟨.int kvs.length, H, I', ⟨t, rfl⟩, q⟩
theorem q_lenD (h : Rd H a (.dK kvs)) (f : FrK F0 G kvs (l.map fun p => (dKey (kk p.1), e p.2))) (q : Q (.int (lenI l)) H) : zLenD [.ref a] H Q := ⟨a, kvs, rfl, h, by rw [frk_len f]; exact q⟩
def zCntI (K : PySem.W.Frag) : V → List V → Hp → VK → Prop := rCntI K
theorem klcount {K : PySem.W.Frag} (h : X.K = K := by rfl) : MtR X "list.count" (rCntI K) := h ▸ L2.mt_lcount
theorem q_countI {l : List Int} {i : Int} (h : H a = some (.lst vs)) (f : FrL F0 G vs (l.map eI)) (q : Q (.int ((l.count i : Nat) : Int)) H) : rCntI K (.ref a) [.int i] H Q := by
  rw [frl_ints f] at h
  exact ⟨a, l, i, rfl, rfl, SqL.of h, q⟩
/-- dict(list of pairs of an int, a text and something) -/
theorem q_dictP {kd : κ → PyData} {g : α → PyData} (hkd : ∀ (k : κ) (F G : Hp) (v : V), Fr F G v (kd k) → v = kV (kk k)) (hk : ∀ a b, kk a = kk b → a = b) {m : List (κ × α)} (S : Sep ms H0 G H cs) (h : H a = some (.lst vs)) (f : FrL F0 G vs (m.map fun p => .tuple [kd p.1, g p.2])) (hF : ∀ b, H b = none → F0 b = none)
    (q : ∀ p G' H', Sep ms H0 G' H' cs → Same G G' → Fr F0 G' (.ref p) (eD kk g (dmerge [] m)) → Q (.ref p) H') : qDictP K [.ref a] H Q := by
  have key : ∀ {vs : List V} {m : List (κ × α)}, FrL F0 G vs (m.map fun p => .tuple [kd p.1, g p.2]) → ∃ (ps : List Addr) (kvs : List (Key × V)), vs = ps.map V.ref ∧ Paired (fun p kv => SqT K H p [kV kv.1, kv.2]) ps kvs ∧ FrK F0 G kvs (m.map fun p => (dKey (kk p.1), g p.2)) := by
    intro vs m f
    induction m generalizing vs with
    | nil =>
      cases f
      exact ⟨[], [], rfl, .nil, .nil⟩
    | cons p m ih =>
      cases f with
      | cons f1 hs =>
        obtain ⟨ps, kvs, rfl, h1, h2⟩ := ih hs
        obtain ⟨t, rfl⟩ := fr_tup f1
        obtain ⟨v1, v2, k1, g1, g2⟩ := tu2 f1
        have e1 := hkd _ _ _ _ g1
        subst e1
        exact ⟨t :: ps, (kk p.1, v2) :: kvs, rfl, .cons (SqT.of (S.sub _ _ k1)) h1, .cons g2 h2⟩
  obtain ⟨ps, kvs, rfl, h1, h2⟩ := key f
  refine ⟨a, ps, kvs, rfl, SqL.of h, h1, fun p hp => q p _ _ (S.sh hp) (sNew (S.gfree hp)) (.dic (Or.inl upd_same) (hF p hp) ?_)⟩
  have h3 := frk_merge (kk := kk) (e := g) hk (l := []) (kvs := []) (F0 := F0) (G := G) .nil h2
  exact h3.same (sNew (S.gfree hp))
theorem kdI (k : Int) (F G : Hp) (v : V) (f : Fr F G v (eI k)) : v = kV (kI k) := fr_int f
theorem kdS (k : Str) (F G : Hp) (v : V) (f : Fr F G v (eS k)) : v = kV (kS k) := fr_str f
end
end LQ
namespace LQ
open PySem L2 LX
theorem frz_or {G G' : Hp} {a : Addr} {A : Hp → Prop} (f : A G) (g : FrzG G a G' → A G') (d : G' = G ∨ FrzG G a G') : A G' := by
  rcases d with rfl | d
  · exact f
  · exact g d
theorem frz_same {G0 G G' : Hp} {a : Addr} (s : Same G0 G) (d : G' = G ∨ FrzG G a G') (n : G0 a = none) : Same G0 G' := by
  rcases d with rfl | ⟨od, kvs, _, rfl⟩
  · exact s
  · exact sUpd s n
end LQ
namespace LX
open PySem L2
theorem FnG.imp {P : Program} {w : World} {K : PySem.W.Frag} {mg : Str → Option Value} {base : Heap} {k : Nat} {f : Addr} {fd : FuncData} {ps : List Str} {sp sp' : Sp} (F : FnG P w K mg base k f fd ps sp) (h : ∀ vs H Q E, sp' vs H Q E → sp vs H Q E) : FnG P w K mg base k f fd ps sp' :=
  ⟨fun vs H Q E z => F.len vs H Q E (h vs H Q E z), fun A o s H ar us vs Q E r q e b v z => F.go A o s H ar us vs Q E r q e b v (h vs H Q E z)⟩
end LX

/-! list(zip), list of a text, slices by a step of 1 or -1, lists unpacked, owned results of calls that write. -/
namespace LQ
open PySem PySem.Spec PyProof.Rows L2 LX
def zipF {α β : Type} (l : List α) (m : List β) : Option (List (α × β)) := cond (decide (l.length = m.length)) (some (l.zip m)) none
def zipSF {β : Type} (z : Str) (m : List β) : Option (List (Str × β)) := cond (decide (z.cps.size ≤ 4000) && decide (m.length = z.cps.size)) (some ((chars z).zip m)) none
def charsF (z : Str) : Option (List Str) := cond (decide (z.cps.size ≤ 4000)) (some (chars z)) none
/-- xs[::i], i 1 or -1 -/
def stepF {α : Type} (l : List α) (i : Int) : Option (List α) := cond (decide (i = 1)) (some l) (cond (decide (i = -1)) (some l.reverse) none)
section
variable {ms : List Addr} {F0 H0 G G' H H' H2 : Hp} {cs : List (Addr × HO)} {a b : Addr} {vs us : List V} {K : PySem.W.Frag} {Q : VK} {v x y : V} {α β : Type} {e : α → PyData} {e2 : β → PyData} {l : List α} {m : List β}
theorem Sep.grow (S : Sep ms H0 G H cs) (s : Same H H2) : ∃ G', Sep ms H0 G' H2 cs ∧ Same G G' ∧ (∀ b o, H b = none → H2 b = some o → G' b = some o) ∧ ∀ b xs, H2 b = some (.tup xs) → G' b = some (.tup xs) := by
  have ro : ∀ b, H2 b = none → H b = none := fun b e => by
    cases h : H b with
    | none => rfl
    | some o =>
      rw [s b o h] at e
      cases e
  have out : ∀ b, b ∉ cs.map (·.1) → hid H2 (cs.map (·.1)) b = H2 b := fun b h => hid_out h
  have sG : Same G (hid H2 (cs.map (·.1))) := fun b o e => by
    have n : b ∉ cs.map (·.1) := fun z => by
      obtain ⟨c, hc, rfl⟩ := List.mem_map.mp z
      rw [(S.cel c hc).2.1] at e
      cases e
    rw [out b n]
    exact s b o (S.sub b o e)
  have tp : ∀ b xs, H2 b = some (.tup xs) → hid H2 (cs.map (·.1)) b = some (.tup xs) := fun b xs e => by
    rw [out b]
    · exact e
    · intro z
      obtain ⟨c, hc, rfl⟩ := List.mem_map.mp z
      have := s _ _ (S.cel c hc).1
      rw [e] at this
      exact (S.cel c hc).2.2 xs (Option.some.inj this).symm
  exact ⟨hid H2 (cs.map (·.1)), ⟨fun b o e => (hid_some e).2, fun c hc => ⟨s _ _ (S.cel c hc).1, hid_in (List.mem_map_of_mem hc), (S.cel c hc).2.2⟩, S.nd, S.msc, S.hms, fun b e => S.old b (ro b e), fun b o e n => sG b o (S.base b o e n), tp⟩, sG,
    fun b o hn e => by rw [out b (S.cne hn)]; exact e, tp⟩
/-- a new list of pairs -/
theorem frl_pairs {Ts : List Addr} {l : List α} {m : List β} (hl : Ts.length = l.length) (hm : m.length = l.length) (h : ∀ (j : Nat) (x : α) (y : β), l[j]? = some x → m[j]? = some y → ∃ T v w, Ts[j]? = some T ∧ G T = some (.tup [v, w]) ∧ Fr F0 G v (e x) ∧ Fr F0 G w (e2 y)) :
    FrL F0 G (Ts.map V.ref) ((l.zip m).map (eT2 e e2)) := by
  induction l generalizing m Ts with
  | nil =>
    have : Ts = [] := List.length_eq_zero_iff.mp hl
    subst this
    exact .nil
  | cons x l ih =>
    cases m with
    | nil => cases hm
    | cons y m =>
      cases Ts with
      | nil => cases hl
      | cons T Ts =>
        obtain ⟨T', v, w, k1, k2, k3, k4⟩ := h 0 x y rfl rfl
        cases k1
        refine .cons (.tup k2 (.cons k3 (.cons k4 .nil))) (ih (by simpa using hl) (by simpa using hm) fun j x y hx hy => ?_)
        obtain ⟨T', v, w, k1, k2⟩ := h (j + 1) x y (by simpa using hx) (by simpa using hy)
        exact ⟨T', v, w, by simpa using k1, k2⟩
def zLz (K : PySem.W.Frag) (vs : List V) (H1 : Hp) (Q : VK) : Prop := ∃ (a b : Addr) (xs ys : List V), vs = [.ref a, .ref b] ∧ SqL K H1 a xs ∧ SqL K H1 b ys ∧ ys.length = xs.length ∧
  ∀ (L : Addr) (H2 : Hp) (Ts : List Addr), H1 L = none → Same H1 H2 → H2 L = some (.lst (Ts.map V.ref)) → Ts.length = xs.length → (∀ (j : Nat) (x y : V), xs[j]? = some x → ys[j]? = some y → ∃ T, Ts[j]? = some T ∧ H2 T = some (.tup [x, y])) → Q (.ref L) H2
theorem rd_lzZ {ta : TA} {σ : L2.St} (q : ta σ H fun vs H1 => zLz K vs H1 Q) : tListZip K ta σ H Q := q
theorem q_lz {r : List (α × β)} (S : Sep ms H0 G H cs) (ha : H a = some (.lst vs)) (f : FrL F0 G vs (l.map e)) (hb : H b = some (.lst us)) (g : FrL F0 G us (m.map e2)) (h : zipF l m = some r) (hF : ∀ b, H b = none → F0 b = none)
    (q : ∀ p G' H', Sep ms H0 G' H' cs → Same G G' → Fr F0 G' (.ref p) (eL (eT2 e e2) r) → Q (.ref p) H') : zLz K [.ref a, .ref b] H Q := by
  unfold zipF at h
  obtain ⟨h1, h2⟩ := grd h
  have h1 := of_decide_eq_true h1
  cases som h2
  have lv := f.len
  have lu := g.len
  rw [List.length_map] at lv lu
  refine ⟨a, b, vs, us, rfl, SqL.of ha, SqL.of hb, by omega, fun L H2 Ts nL sm hL tl ht => ?_⟩
  obtain ⟨G2, S2, s2, kn, kt⟩ := S.grow sm
  refine q L G2 H2 S2 s2 (.lst (kn L _ nL hL) (hF L nL) (frl_pairs (by omega) (by omega) fun j x y hx hy => ?_))
  obtain ⟨v, e1, f1⟩ := f.get (i := j) (d := e x) (by rw [List.getElem?_map, hx]; rfl)
  obtain ⟨w, e3, f3⟩ := g.get (i := j) (d := e2 y) (by rw [List.getElem?_map, hy]; rfl)
  obtain ⟨T, k1, k2⟩ := ht j v w e1 e3
  exact ⟨T, v, w, k1, kt _ _ k2, f1.same s2, f3.same s2⟩
def zLzT (K : PySem.W.Frag) (vs : List V) (H1 : Hp) (Q : VK) : Prop := ∃ (x : Str) (b : Addr) (ys : List V), vs = [.str x, .ref b] ∧ x.cps.size ≤ 4000 ∧ SqL K H1 b ys ∧ ys.length = x.cps.size ∧
  ∀ (L : Addr) (H2 : Hp) (Ts : List Addr), H1 L = none → Same H1 H2 → H2 L = some (.lst (Ts.map V.ref)) → Ts.length = x.cps.size → (∀ (j c : Nat) (y : V), x.cps[j]? = some c → ys[j]? = some y → ∃ T, Ts[j]? = some T ∧ H2 T = some (.tup [sg c, y])) → Q (.ref L) H2
theorem q_lzT {z : Str} {r : List (Str × β)} (S : Sep ms H0 G H cs) (hb : H b = some (.lst us)) (g : FrL F0 G us (m.map e2)) (h : zipSF z m = some r) (hF : ∀ b, H b = none → F0 b = none)
    (q : ∀ p G' H', Sep ms H0 G' H' cs → Same G G' → Fr F0 G' (.ref p) (eL (eT2 eS e2) r) → Q (.ref p) H') : zLzT K [.str z, .ref b] H Q := by
  unfold zipSF at h
  obtain ⟨h1, h2⟩ := grd h
  rw [Bool.and_eq_true, decide_eq_true_iff, decide_eq_true_iff] at h1
  cases som h2
  have lu := g.len
  rw [List.length_map] at lu
  refine ⟨z, b, us, rfl, h1.1, SqL.of hb, by omega, fun L H2 Ts nL sm hL tl ht => ?_⟩
  obtain ⟨G2, S2, s2, kn, kt⟩ := S.grow sm
  refine q L G2 H2 S2 s2 (.lst (kn L _ nL hL) (hF L nL) (frl_pairs (by rw [chars_len]; omega) (by rw [chars_len]; omega) fun j x y hx hy => ?_))
  unfold chars at hx
  rw [List.getElem?_map] at hx
  obtain ⟨c, h3, h4⟩ := Option.map_eq_some_iff.mp hx
  rw [Array.getElem?_toList] at h3
  obtain ⟨w, e3, f3⟩ := g.get (i := j) (d := e2 y) (by rw [List.getElem?_map, hy]; rfl)
  obtain ⟨T, k1, k2⟩ := ht j c w h3 e3
  exact ⟨T, sg c, w, k1, kt _ _ k2, by rw [← h4]; exact .str _, f3.same s2⟩
theorem q_listS {z : Str} {l : List Str} (h : charsF z = some l) (q : zNew (l.map V.str) H Q) : rListS [.str z] H Q := by
  unfold charsF at h
  obtain ⟨h1, h2⟩ := grd h
  cases som h2
  refine ⟨z, rfl, of_decide_eq_true h1, fun p hp => ?_⟩
  have e : (z.cps.toList.map fun c => V.str ⟨#[c]⟩) = (chars z).map V.str := by
    unfold chars
    rw [List.map_map]
    rfl
  rw [e]
  exact q p hp
/-! ### xs[::i] -/
def zSt (K : PySem.W.Frag) (x : V) (i : V) (H : Hp) (Q : VK) : Prop := ∃ a xs k, x = .ref a ∧ i = .int k ∧ SqL K H a xs ∧ (k = 1 ∨ k = -1) ∧ ∀ p, H p = none → Q (.ref p) (upd H p (.lst (if k = 1 then xs else xs.reverse)))
def tSt (K : PySem.W.Frag) (te ti : TE) : TE := fun σ H Q => te σ H fun x H1 => ti σ H1 fun i H2 => zSt K x i H2 Q
theorem rd_st {te ti : TE} {σ : L2.St} (q : te σ H fun x H1 => ti σ H1 fun i H2 => zSt K x i H2 Q) : tSt K te ti σ H Q := q
theorem one_pick (items : Array Value) : slicePick items none none (some 1) = items := by
  have e : slicePick items none none (some 1) = slicePick items none none none := rfl
  rw [e]
  unfold slicePick
  have h : sliceBounds none none none items.size = (0, (items.size : Int), 1) := by
    first
    | rfl
    | simp [sliceBounds]
  rw [h]
  show ((sliceRange 0 (items.size : Int) 1).filterMap (items[·]?)).toArray = items
  have h2 : sliceRange 0 (items.size : Int) 1 = List.range items.size := by
    unfold sliceRange
    simp
    by_cases h0 : 0 < items.size
    · rw [if_pos h0]
      simp
    · rw [if_neg h0, show items.size = 0 by omega]
      rfl
  rw [h2, PySem.W.krv_all]
end
section
variable {X : Cx} {K : PySem.W.Frag}
theorem pe_st {e st : Expr} {te ti : TE} {p3 pos : Pos} (ops : Value → Nat → List Value) (he : PE X e te) (hi : PE X st ti) (hsub : ∀ (a : Value) (b : Nat), subscripted (.Slice none none (some st) p3) false a (.ref b) = operate (ops a b) (getItem a (.ref b)) := by intros; rfl) (h : X.K = K := by rfl) :
    PE X (.Subscript e (.Slice none none (some st) p3) pos) (tSt K te ti) := by
  subst h
  refine ⟨fun pins s σ H Q I h => ?_⟩
  refine Subscript_ (thn (he.run pins s σ H _ I h) fun v s1 ⟨x, H1, I1, r1, q1⟩ => ?_)
  have q2 : ti σ H1 fun i H2 => ∃ k, i = .int k ∧ zSt X.K x (.int k) H2 Q := by
    have e : (fun (i : V) (H2 : Hp) => ∃ k, i = .int k ∧ zSt X.K x (.int k) H2 Q) = fun i H2 => zSt X.K x i H2 Q := by
      funext i H2
      refine propext ⟨fun ⟨k, e, z⟩ => e ▸ z, fun z => ?_⟩
      obtain ⟨a, xs, k, e1, e2, z2⟩ := z
      exact ⟨k, e2, a, xs, k, e1, rfl, z2⟩
    rw [e]
    exact q1
  have hst : PO X (some st) (tPart ti) := po_some hi
  refine wpAny_Slice (thn (po_none.run pins s1 σ H1 (fun o H2 => o = none ∧ H2 = H1) I1 ⟨rfl, rfl⟩) fun vl s2 ⟨l, H2, I2, pl, el, e2⟩ => ?_)
  subst el e2
  refine thn (po_none.run pins s2 σ H2 (fun o H3 => o = none ∧ H3 = H2) I2 ⟨rfl, rfl⟩) fun vu s3 ⟨u, H3, I3, pu, eu, e3⟩ => ?_
  subst eu e3
  refine thn (hst.run pins s3 σ H3 (fun o H4 => ∃ k, o = some k ∧ zSt X.K x (.int k) H4 Q) I3 ?_) fun vs s4 ⟨o, H4, I4, ps, k, eo, z⟩ => ?_
  · have e : (fun (y : V) (H' : Hp) => ∃ i, y = .int i ∧ ∃ k, some i = some k ∧ zSt X.K x (.int k) H' Q) = fun i H2 => ∃ k, i = .int k ∧ zSt X.K x (.int k) H2 Q := by
      funext y H'
      refine propext ⟨fun ⟨i, e, k, e2, z⟩ => ⟨i, e, (Option.some.inj e2) ▸ z⟩, fun ⟨k, e, z⟩ => ⟨k, e, k, rfl, z⟩⟩
    show ti σ H3 (fun y H' => ∃ i, y = .int i ∧ ∃ k, some i = some k ∧ zSt X.K x (.int k) H' Q)
    rw [e]
    exact q2
  subst eo
  obtain ⟨a, xs, k', ex, ek, hx, h1, q⟩ := z
  cases ek
  subst ex
  cases r1
  have I5 : Inv X pins σ H4 { s4 with heap := s4.heap.push { cls := .type "slice", data := .fields #[vl, vu, vs] } } := I4.kept (t' := s4.toks) fun b ob q => Heap.get?_push_of_some _ q
  obtain ⟨its, r, ht, hz⟩ := I5.list hx
  have hlen := r.length
  show wpAny (model X.prog X.w) X.A (subscriptTail e (.Slice none none (some st) p3) (.ref a) (.ref s4.heap.objs.size)) (EP X pins σ Q) X.xe { s4 with heap := s4.heap.push { cls := .type "slice", data := .fields #[vl, vu, vs] } }
  refine tail_any (ops := ops (.ref a) s4.heap.objs.size) ht.isList.typeIs (PySem.slot_list_getitem.lookup) ?_ (hsub _ _)
  rcases h1 with rfl | rfl
  · refine wpAny_getItem_list_slice ht.isList (Heap.IsSliceOf.new _ vl vu vs) pl pu ps (by decide) ?_ (by rw [List.size_toArray]; omega)
    rw [one_pick]
    refine ⟨.ref _, _, I5.laid (t' := s4.toks) (o := .lst xs) (fun b ob q => Heap.get?_push_of_some _ q) (Nat.le_refl _) ?_, rfl, q _ (I5.hok.fresh (Nat.le_refl _))⟩
    exact ⟨hz, its, 0, r, Heap.get?_push_size _ rfl⟩
  · refine wpAny_getItem_list_slice ht.isList (Heap.IsSliceOf.new _ vl vu vs) pl pu ps (by decide) ?_ (by rw [List.size_toArray]; omega)
    rw [PySem.W.krv_pick]
    refine ⟨.ref _, _, I5.laid (t' := s4.toks) (o := .lst xs.reverse) (fun b ob q => Heap.get?_push_of_some _ q) (Nat.le_refl _) ?_, rfl, q _ (I5.hok.fresh (Nat.le_refl _))⟩
    exact ⟨by rw [List.length_reverse]; exact hz, _, 0, r.reverse, Heap.get?_push_size _ rfl⟩
theorem q_st {ms : List Addr} {F0 H0 G H : Hp} {cs : List (Addr × HO)} {a : Addr} {vs : List V} {Q : VK} {α : Type} {e : α → PyData} {l r : List α} {i : Int} (S : Sep ms H0 G H cs) (ha : H a = some (.lst vs)) (f : FrL F0 G vs (l.map e)) (h : stepF l i = some r) (hF : ∀ b, H b = none → F0 b = none)
    (q : ∀ p G' H', Sep ms H0 G' H' cs → Same G G' → Fr F0 G' (.ref p) (eL e r) → Q (.ref p) H') : zSt K (.ref a) (.int i) H Q := by
  unfold stepF at h
  rcases cnd h with ⟨c, h⟩ | ⟨c, h⟩
  · have c := of_decide_eq_true c
    subst c
    cases som h
    refine ⟨a, vs, 1, rfl, rfl, SqL.of ha, Or.inl rfl, ?_⟩
    rw [if_pos rfl]
    exact q_new S f hF q
  · rcases cnd h with ⟨c2, h⟩ | ⟨c2, h⟩
    · have c2 := of_decide_eq_true c2
      subst c2
      cases som h
      refine ⟨a, vs, -1, rfl, rfl, SqL.of ha, Or.inr rfl, ?_⟩
      rw [if_neg (by decide)]
      refine q_new S ?_ hF q
      rw [List.map_reverse]
      exact f.rev
    · cases h
theorem rd_revL {te : TE} {σ : L2.St} {H : Hp} {Q : VK} (q : te σ H fun x H1 => zSt K x (.int (-1)) H1 Q) : tRevL K te σ H Q := by
  have e : (fun (x : V) (H1 : Hp) => ∃ a xs, x = .ref a ∧ SqL K H1 a xs ∧ ∀ p, H1 p = none → Q (.ref p) (upd H1 p (.lst xs.reverse))) = fun x H1 => zSt K x (.int (-1)) H1 Q := by
    funext x H1
    refine propext ⟨fun ⟨a, xs, e, h, q⟩ => ⟨a, xs, -1, e, rfl, h, Or.inr rfl, by rw [if_neg (by decide)]; exact q⟩, fun ⟨a, xs, k, e, ek, h, _, q⟩ => ⟨a, xs, e, h, ?_⟩⟩
    cases ek
    rw [if_neg (by decide)] at q
    exact q
  show te σ H _
  rw [e]
  exact q
theorem krevL {e : Expr} {te : TE} {k : Nat} {p1 p2 p3 pos : Pos} (he : PE X e te) (h : X.K = K := by rfl) : PE X (.Subscript e (.Slice none none (some (.UnaryOp .USub (.Constant (.int 1) k p1) p2)) p3) pos) (tRevL K te) := h ▸ pe_revL he
theorem kpg_lst {es : List Expr} {k n : Nat} {u : TGs} {pos : Pos} (hc : X.calm = true) (hp : PGs X es u) (hn : (assignEach es X.env).length = n := by rfl) (hst : (assignEach es X.env).findIdx? (·.1) = none := by rfl) (h : X.K = K := by rfl) : PG X (.Tuple es k pos) (gLst K n u) := h ▸ pg_lst hc hp hn hst
theorem rd_glst {n : Nat} {s : TGs} {p : Addr} {xs : List V} {σ : L2.St} {H : Hp} {R : L2.St → Hp → Prop} (h : H p = some (.lst xs)) (z : xs.length = n) (q : s xs σ H R) : gLst K n s (.ref p) σ H R := ⟨p, xs, rfl, SqL.of h, z, q⟩
/-- the items of a list of known length -/
def only2 {α : Type} (l : List α) : Option (α × α) := match l with
  | [x, y] => some (x, y)
  | _ => none
def only1 {α : Type} (l : List α) : Option α := match l with
  | [x] => some x
  | _ => none
def only3 {α : Type} (l : List α) : Option (α × α × α) := match l with
  | [x, y, z] => some (x, y, z)
  | _ => none
theorem on2 {F0 G : Hp} {vs : List V} {α : Type} {e : α → PyData} {l : List α} {p : α × α} (h : only2 l = some p) (f : FrL F0 G vs (l.map e)) : ∃ v w, vs = [v, w] ∧ Fr F0 G v (e p.1) ∧ Fr F0 G w (e p.2) := by
  unfold only2 at h
  split at h
  · cases h
    cases f with
    | cons f1 hs => cases hs with
      | cons f2 hs => cases hs; exact ⟨_, _, rfl, f1, f2⟩
  · cases h
theorem on3 {F0 G : Hp} {vs : List V} {α : Type} {e : α → PyData} {l : List α} {p : α × α × α} (h : only3 l = some p) (f : FrL F0 G vs (l.map e)) : ∃ v w x, vs = [v, w, x] ∧ Fr F0 G v (e p.1) ∧ Fr F0 G w (e p.2.1) ∧ Fr F0 G x (e p.2.2) := by
  unfold only3 at h
  split at h
  · cases h
    cases f with
    | cons f1 hs => cases hs with
      | cons f2 hs => cases hs with
        | cons f3 hs => cases hs; exact ⟨_, _, _, rfl, f1, f2, f3⟩
  · cases h
theorem on1 {F0 G : Hp} {vs : List V} {α : Type} {e : α → PyData} {l : List α} {p : α} (h : only1 l = some p) (f : FrL F0 G vs (l.map e)) : ∃ v, vs = [v] ∧ Fr F0 G v (e p) := by
  unfold only1 at h
  split at h
  · cases h
    cases f with
    | cons f1 hs => cases hs; exact ⟨_, rfl, f1⟩
  · cases h
end
end LQ

/-! ### list(zip(a text, a list)): over any two iterators that are drawn from -/
namespace LX
open PySem PySem.Spec PyProof.Rows L2
section
variable {prog : Program} {w : World} {A : Around} {E : Value → Shared → Prop} {s : Shared} {z TI TO T i1 i2 : Addr} {f : Bool} {oT : Obj} {fp1 fp2 : List Addr} {n1 n2 i : Nat} {P1 P2 : Nat → Value → Prop} {St1 St2 : Nat → Heap → Prop}
/-- a turn of a zip whose last tuple is held elsewhere -/
theorem heldItem {Q : Value → Shared → Prop} (S : ZipSep2 z TI TO i1 i2 fp1 fp2) (D1 : Draws prog w A i1 fp1 n1 P1 St1) (D2 : Draws prog w A i2 fp2 n2 P2 St2)
    (hz : IsZipHeld s.heap z TI TO T f) (hT : s.heap.get? T = some oT) (hTI : IsPair s.heap TI (.ref i1) (.ref i2)) (st1 : St1 i s.heap) (st2 : St2 i s.heap) (lt1 : i < n1) (lt2 : i < n2)
    (hQ : ∀ x1 x2 h' tk, P1 i x1 → P2 i x2 → IsZipHeld h' z TI TO T true → St1 (i + 1) h' → St2 (i + 1) h' → IsPair h' s.heap.objs.size x1 x2 → h'.objs.size = s.heap.objs.size + 1 →
      (∀ c o, c ≠ z → c ≠ i1 → c ≠ i2 → s.heap.get? c = some o → h'.get? c = some o) → Q (.ref s.heap.objs.size) { s with heap := h', toks := tk }) :
    wpAny (model prog w) A (Builtin.«zip.__next__» ⟨[.ref z], []⟩) (fun fin s' => ∃ v, fin = .done (.ret v) ∧ Q v s') E s := by
  obtain ⟨hp, g, d, tk0, os⟩ := s
  show wpAny _ _ (field (.ref z) 2 >>= _) _ _ _
  refine wpAny_bind (wpAny_field hz rfl (x := .bool false) rfl ?_)
  show wpAny _ _ (field (.ref z) 3 >>= _) _ _ _
  refine wpAny_bind (wpAny_field hz rfl (x := .ref TI) rfl (wpAny_bind (wpAny_seqItems hTI rfl ?_)))
  show wpAny _ _ (Builtin.SmallTypes.ownedTupleIsFree (.ref z) >>= _) _ _ _
  refine wpAny_bind (wpAny_tupleHeld_zip hz hT fun g0 hz0 c0 => ?_)
  replace c0 : Heap.SameBut z hp g0 := c0
  simp only [Bool.false_eq_true, if_false]
  refine wpAny_bind ?_
  rw [← Array.forIn_toList]
  simp only [List.forIn_cons, List.forIn_nil]
  refine wpAny_bind (wpAny_bind (wpAny_holding ?_))
  show wpAny _ _ (Builtin.SmallTypes.nextOf (.ref i1) >>= _) _ _ ⟨g0, g, d, tk0, os⟩
  refine wpAny_bind (D1.item i _ _ _ lt1 (D1.over st1 c0 S.zf1) fun x1 g1 tk1 hx1 u1 c1 => wpAny_pure (wpAny_pure ?_))
  replace c1 : Heap.SameBut i1 g0 g1 := c1
  refine wpAny_bind (wpAny_bind (wpAny_holding ?_))
  show wpAny _ _ (Builtin.SmallTypes.nextOf (.ref i2) >>= _) _ _ ⟨g1, g, d, tk1, os⟩
  refine wpAny_bind (D2.item i _ _ _ lt2 (D2.over (D2.over st2 c0 S.zf2) c1 S.sep1_2) fun x2 g2 tk2 hx2 u2 c2 => wpAny_pure (wpAny_pure (wpAny_pure ?_)))
  replace c2 : Heap.SameBut i2 g1 g2 := c2
  show wpAny _ _ (newTuple [x1, x2] >>= _) _ _ ⟨g2, g, d, tk2, os⟩
  refine wpAny_bind (wpAny_newTuple ?_)
  have sz : g2.objs.size = hp.objs.size := by rw [c2.1, c1.1, c0.1]
  have hz2 : IsZipHeld g2 z TI TO T true := c2.extBut _ _ S.zi2 (c1.extBut _ _ S.zi1 hz0)
  have keep : ∀ c o, c ≠ z → c ≠ i1 → c ≠ i2 → hp.get? c = some o → g2.get? c = some o := fun c o a1 a2 a3 e => c2.extBut _ _ a3 (c1.extBut _ _ a2 (c0.extBut _ _ a1 e))
  refine wpAny_pure ⟨_, rfl, ?_⟩
  show Q (.ref g2.objs.size) ⟨g2.push { cls := .type "tuple", data := .seq #[x1, x2] }, g, d, tk2, os⟩
  have hp2 : IsPair (g2.push { cls := .type "tuple", data := .seq #[x1, x2] }) g2.objs.size x1 x2 := Heap.get?_push_size _ rfl
  have sz4 : (g2.push { cls := .type "tuple", data := .seq #[x1, x2] }).objs.size = g2.objs.size + 1 := Heap.size_push ..
  rw [sz] at hp2 sz4 ⊢
  exact hQ x1 x2 _ tk2 hx1 hx2 (Heap.get?_push_of_some _ hz2) (D1.frame _ _ _ (D1.over u1 c2 S.sep2_1) fun b _ o e => Heap.get?_push_of_some _ e) (D2.frame _ _ _ u2 fun b _ o e => Heap.get?_push_of_some _ e) hp2 sz4
    fun c o a1 a2 a3 e => Heap.get?_push_of_some _ (keep c o a1 a2 a3 e)
/-- its end, the first iterator's -/
theorem heldEnd {Q : Fin → Shared → Prop} (S : ZipSep2 z TI TO i1 i2 fp1 fp2) (D1 : Draws prog w A i1 fp1 n1 P1 St1)
    (hz : IsZipHeld s.heap z TI TO T f) (hT : s.heap.get? T = some oT) (hTI : IsPair s.heap TI (.ref i1) (.ref i2)) (st1 : St1 n1 s.heap)
    (hE : ∀ h' e, (∀ c o, c ≠ z → c ≠ i1 → s.heap.get? c = some o → h'.get? c = some o) → (∃ o, h'.get? e = some o ∧ o.cls = .type "StopIteration") → E (.ref e) { s with heap := h' }) :
    wpAny (model prog w) A (Builtin.«zip.__next__» ⟨[.ref z], []⟩) Q E s := by
  obtain ⟨hp, g, d, tk0, os⟩ := s
  show wpAny _ _ (field (.ref z) 2 >>= _) _ _ _
  refine wpAny_bind (wpAny_field hz rfl (x := .bool false) rfl ?_)
  show wpAny _ _ (field (.ref z) 3 >>= _) _ _ _
  refine wpAny_bind (wpAny_field hz rfl (x := .ref TI) rfl (wpAny_bind (wpAny_seqItems hTI rfl ?_)))
  show wpAny _ _ (Builtin.SmallTypes.ownedTupleIsFree (.ref z) >>= _) _ _ _
  refine wpAny_bind (wpAny_tupleHeld_zip hz hT fun g0 hz0 c0 => ?_)
  replace c0 : Heap.SameBut z hp g0 := c0
  simp only [Bool.false_eq_true, if_false]
  refine wpAny_bind ?_
  rw [← Array.forIn_toList]
  simp only [List.forIn_cons, List.forIn_nil]
  refine wpAny_bind (wpAny_bind (wpAny_holding ?_))
  show wpAny _ _ (Builtin.SmallTypes.nextOf (.ref i1) >>= _) _ _ ⟨g0, g, d, tk0, os⟩
  refine wpAny_bind (D1.done ⟨g0, g, d, tk0, os⟩ _ _ (D1.over st1 c0 S.zf1) fun q e hq he => ?_)
  exact hE q e (fun c o a1 a2 x => hq _ _ a2 (c0.extBut _ _ a1 x)) he
theorem nextHeldItem {Q : Option Value → Shared → Prop} (S : ZipSep2 z TI TO i1 i2 fp1 fp2) (D1 : Draws prog w A.in1 i1 fp1 n1 P1 St1) (D2 : Draws prog w A.in1 i2 fp2 n2 P2 St2)
    (hz : IsZipHeld s.heap z TI TO T f) (hT : s.heap.get? T = some oT) (hTI : IsPair s.heap TI (.ref i1) (.ref i2)) (st1 : St1 i s.heap) (st2 : St2 i s.heap) (lt1 : i < n1) (lt2 : i < n2)
    (hQ : ∀ x1 x2 h' tk, P1 i x1 → P2 i x2 → IsZipHeld h' z TI TO T true → St1 (i + 1) h' → St2 (i + 1) h' → IsPair h' s.heap.objs.size x1 x2 → h'.objs.size = s.heap.objs.size + 1 →
      (∀ c o, c ≠ z → c ≠ i1 → c ≠ i2 → s.heap.get? c = some o → h'.get? c = some o) → Q (some (.ref s.heap.objs.size)) { s with heap := h', toks := tk }) :
    wpAny (model prog w) A (pyNext (.ref z)) Q E s := by
  have ty : s.TypeIs (.ref z) "zip" := ⟨_, hz, rfl⟩
  unfold pyNext
  exact wpAny_bind (wpAny_attempt (wpAny_callSpecial?_slot (name := Str.ofString "__next__") ty PySem.F.slot_zip_next
    (wpAny_call_entry PySem.F.slot_zip_next ty PySem.F.entry_zip_next (heldItem S D1 D2 hz hT hTI st1 st2 lt1 lt2 fun x1 x2 h' tk a1 a2 a3 a4 a5 a6 a7 a8 => wpAny_pure (hQ x1 x2 h' tk a1 a2 a3 a4 a5 a6 a7 a8)) (PySem.F.args_zip_next_1 _))))
theorem nextHeldEnd {Q : Option Value → Shared → Prop} (S : ZipSep2 z TI TO i1 i2 fp1 fp2) (D1 : Draws prog w A.in1 i1 fp1 n1 P1 St1)
    (hz : IsZipHeld s.heap z TI TO T f) (hT : s.heap.get? T = some oT) (hTI : IsPair s.heap TI (.ref i1) (.ref i2)) (st1 : St1 n1 s.heap)
    (hQ : ∀ h', (∀ c o, c ≠ z → c ≠ i1 → s.heap.get? c = some o → h'.get? c = some o) → Q none { s with heap := h' }) : wpAny (model prog w) A (pyNext (.ref z)) Q E s := by
  have ty : s.TypeIs (.ref z) "zip" := ⟨_, hz, rfl⟩
  unfold pyNext
  refine wpAny_bind (wpAny_attempt (wpAny_callSpecial?_slot (name := Str.ofString "__next__") ty PySem.F.slot_zip_next
    (wpAny_call_entry PySem.F.slot_zip_next ty PySem.F.entry_zip_next (heldEnd S D1 hz hT hTI st1 fun h' e hk he => ?_) (PySem.F.args_zip_next_1 _))))
  obtain ⟨o, ho, hc⟩ := he
  exact wpAny_bind (wpAny_isInstance (T := "StopIteration") (b := true) ⟨o, ho, hc⟩ isSubtype_stop (wpAny_pure (hQ _ hk)))
end
/-- the zip z amid its walk: i pairs are out, all above B -/
structure ZGt (h : Heap) (z TI TO i1 i2 B : Addr) (P1 P2 : Nat → Value → Prop) (St1 St2 : Nat → Heap → Prop) (i : Nat) (Ts : List Addr) : Prop where
  pr : IsPair h TI (.ref i1) (.ref i2)
  s1 : St1 i h
  s2 : St2 i h
  zp : (IsZip h z TI TO .none ∧ ∃ a b, IsPair h TO a b) ∨ ∃ T f oT, IsZipHeld h z TI TO T f ∧ h.get? T = some oT ∧ B ≤ T
  len : Ts.length = i
  nd : Ts.Nodup
  out : ∀ (j : Nat) (T : Addr), Ts[j]? = some T → B ≤ T ∧ ∃ x y, P1 j x ∧ P2 j y ∧ IsPair h T x y
section
variable {P : Program} {w : World} {A : Around} {R : Result → Shared → Prop} {z TI TO i1 i2 S B : Addr} {fp1 fp2 : List Addr} {n : Nat} {P1 P2 : Nat → Value → Prop} {St1 St2 : Nat → Heap → Prop} {res : Value}
theorem zipLoopG (D : ZipSep2 z TI TO i1 i2 fp1 fp2) (D1 : Draws P w A.in1.in1 i1 fp1 n P1 St1) (D2 : Draws P w A.in1.in1 i2 fp2 n P2 St2) (few : n ≤ sizeLine)
    (lt : ∀ b, b = z ∨ b = TI ∨ b = TO ∨ b ∈ fp1 ∨ b ∈ fp2 → b < B) (ltS : S < B) (offS : S ≠ z ∧ S ≠ TI ∧ S ≠ TO ∧ S ∉ fp1 ∧ S ∉ fp2) :
    ∀ (m i : Nat) (s : Shared) (Ts : List Addr), i + m = n → B ≤ s.heap.objs.size → ZGt s.heap z TI TO i1 i2 B P1 P2 St1 St2 i Ts → (∃ c, s.heap.get? S = some (seqObj "list" (Ts.map Value.ref).toArray c)) →
      (∀ (h' : Heap) (tk : Nat) (Us : List Addr) (c' : Nat), Us.length = n → Us.Nodup → (∀ (j : Nat) (T : Addr), Us[j]? = some T → B ≤ T ∧ ∃ x y, P1 j x ∧ P2 j y ∧ IsPair h' T x y) → h'.get? S = some (seqObj "list" (Us.map Value.ref).toArray c') →
        (∀ b o, b ≠ S → b ≠ z → b ≠ TO → b ≠ i1 → b ≠ i2 → s.heap.get? b = some o → h'.get? b = some o) → R (.ok (.ret res)) { s with heap := h', toks := tk }) →
      codeAny (model P w) A (.builtin "list.extend.loop" ⟨[.ref S, .ref z, res], []⟩) R s := by
  have lz := lt z (by simp)
  have lTI := lt TI (by simp)
  have lTO := lt TO (by simp)
  have li1 := lt i1 (by simp [D.mem1])
  have li2 := lt i2 (by simp [D.mem2])
  obtain ⟨oz, oTI, oTO, of1, of2⟩ := offS
  have oi1 : S ≠ i1 := fun e => of1 (e ▸ D.mem1)
  have oi2 : S ≠ i2 := fun e => of2 (e ▸ D.mem2)
  intro m
  induction m with
  | zero =>
    intro i s Ts hi hB Z ⟨c, hS⟩ hR
    have e : i = n := by omega
    subst e
    refine codeAny_builtin PySem.F.entry_extend_loop ?_
    rw [Around.under_plainId PySem.F.plain_extend_loop _]
    show wpAny _ A.in1 (pyNext (.ref z) >>= _) _ _ s
    have fin : ∀ (h' : Heap) (tk : Nat), (∀ b o, b ≠ z → b ≠ TO → b ≠ i1 → b ≠ i2 → s.heap.get? b = some o → h'.get? b = some o) → R (.ok (.ret res)) { s with heap := h', toks := tk } := fun h' tk k => by
      refine hR h' tk Ts c Z.len Z.nd (fun j T hj => ?_) (k _ _ oz oTO oi1 oi2 hS) fun b o _ b1 b2 b3 b4 e => k b o b1 b2 b3 b4 e
      obtain ⟨q1, x, y, q2, q3, q4⟩ := Z.out j T hj
      exact ⟨q1, x, y, q2, q3, pairKeep q4 fun o e => k T o (Nat.ne_of_gt (Nat.lt_of_lt_of_le lz q1)) (Nat.ne_of_gt (Nat.lt_of_lt_of_le lTO q1)) (Nat.ne_of_gt (Nat.lt_of_lt_of_le li1 q1)) (Nat.ne_of_gt (Nat.lt_of_lt_of_le li2 q1)) e⟩
    rcases Z.zp with ⟨z1, a, b, z2⟩ | ⟨T, f, oT, z1, z2, z3⟩
    · exact wpAny_bind (PySem.wpAny_pyNext_zipD2_end D D1 D2 z1 Z.pr z2 Z.s1 Z.s2 (Nat.le_refl _) (Nat.le_refl _) (Or.inl rfl) fun h' tk k => wpAny_pure (fin h' tk fun b o b1 b2 b3 b4 e => k b o b1 b2 b3 b4 e))
    · exact wpAny_bind (nextHeldEnd D D1 z1 z2 Z.pr Z.s1 fun h' k => wpAny_pure (fin h' s.toks fun b o b1 _ b3 _ e => k b o b1 b3 e))
  | succ m ih =>
    intro i s Ts hi hB Z ⟨c, hS⟩ hR
    refine codeAny_builtin PySem.F.entry_extend_loop ?_
    rw [Around.under_plainId PySem.F.plain_extend_loop _]
    show wpAny _ A.in1 (pyNext (.ref z) >>= _) _ _ s
    have szT : (Ts.map Value.ref).toArray.size = i := by rw [List.size_toArray, List.length_map, Z.len]
    have turn : ∀ (h' : Heap) (tk : Nat) (x y : Value), P1 i x → P2 i y → ((∃ T f oT, IsZipHeld h' z TI TO T f ∧ h'.get? T = some oT ∧ B ≤ T)) → St1 (i + 1) h' → St2 (i + 1) h' → IsPair h' s.heap.objs.size x y → h'.objs.size = s.heap.objs.size + 1 →
        (∀ b o, b ≠ z → b ≠ TO → b ≠ i1 → b ≠ i2 → s.heap.get? b = some o → h'.get? b = some o) →
        wpAny (model P w) A.in1 (updateSeq S (·.push (.ref s.heap.objs.size)) >>= fun _ => again (.builtin "list.extend.loop" ⟨[.ref S, .ref z, res], []⟩))
          (fun fin s' => match fin with | .done f => R (.ok f) s' | .again c' => c'.quiet = true ∧ codeAny (model P w) A c' R s') (fun e s' => R (.error e) s') { s with heap := h', toks := tk } := by
      intro h' tk x y px py hz hw1 hw2 hp hsz k
      have hS1 := k _ _ oz oTO oi1 oi2 hS
      have lim : i + 1 ≤ sizeLine := by omega
      refine wpAny_bind (wpAny_updateSeq hS1 rfl ?_ (by rw [szT]; exact Nat.le_trans (Nat.le_of_lt (by omega : i < n)) few) (by show ((Ts.map Value.ref).toArray.push _).size ≤ sizeLine + 1; rw [Array.size_push, szT]; omega))
      refine wpAny_pure ⟨plainId_quiet PySem.F.plain_extend_loop _, ?_⟩
      have other : ∀ b o, b ≠ S → h'.get? b = some o → (h'.update S (Obj.mapSeq (·.push (Value.ref s.heap.objs.size)))).get? b = some o := fun b o nb e => (Heap.get?_update_other _ _ (Ne.symm nb)).trans e
      have nS : ∀ {b : Addr}, B ≤ b → b ≠ S := fun q => Nat.ne_of_gt (Nat.lt_of_lt_of_le ltS q)
      refine ih (i + 1) _ (Ts ++ [s.heap.objs.size]) (by omega) (by show B ≤ (h'.update S _).objs.size; rw [Heap.size_update, hsz]; exact Nat.le_trans hB (Nat.le_succ _)) ?_ ?_ fun h2 tk Us c2 u1 u0 u2 u3 u4 => ?_
      · obtain ⟨T, f, oT, z1, z2, z3⟩ := hz
        exact { pr := pairKeep Z.pr fun o e => other _ o (Ne.symm oTI) (k _ o D.TIz D.TITO D.TIi1 D.TIi2 e)
                s1 := D1.frame _ _ _ hw1 fun b hb o e => other b o (fun q => of1 (q ▸ hb)) e
                s2 := D2.frame _ _ _ hw2 fun b hb o e => other b o (fun q => of2 (q ▸ hb)) e
                zp := Or.inr ⟨T, f, oT, other _ _ (Ne.symm oz) z1, other _ _ (nS z3) z2, z3⟩
                len := by rw [List.length_append, Z.len]; rfl
                nd := List.nodup_append.mpr ⟨Z.nd, List.nodup_cons.mpr ⟨List.not_mem_nil, List.nodup_nil⟩, fun T hT U hU e => by
                  obtain ⟨j, hj⟩ := List.mem_iff_getElem?.mp hT
                  obtain ⟨_, x, y, _, _, q4⟩ := Z.out j T hj
                  rw [List.mem_singleton] at hU
                  have l := Heap.lt_size q4
                  rw [e, hU] at l
                  exact Nat.lt_irrefl _ l⟩
                out := fun j T hj => by
                  by_cases c : j < Ts.length
                  · rw [List.getElem?_append_left c] at hj
                    obtain ⟨q1, x, y, q2, q3, q4⟩ := Z.out j T hj
                    exact ⟨q1, x, y, q2, q3, pairKeep q4 fun o e => other T o (nS q1) (k T o (Nat.ne_of_gt (Nat.lt_of_lt_of_le lz q1)) (Nat.ne_of_gt (Nat.lt_of_lt_of_le lTO q1)) (Nat.ne_of_gt (Nat.lt_of_lt_of_le li1 q1)) (Nat.ne_of_gt (Nat.lt_of_lt_of_le li2 q1)) e)⟩
                  · have len := Z.len
                    rw [List.getElem?_append_right (by omega)] at hj
                    have hj2 := (List.getElem?_eq_some_iff.mp hj).1
                    rw [List.length_singleton] at hj2
                    have ej : j = i := by omega
                    subst ej
                    rw [show j - Ts.length = 0 by omega] at hj
                    injection hj with hj
                    subst hj
                    exact ⟨hB, x, y, px, py, pairKeep hp fun o e => other _ o (nS hB) e⟩ }
      · have q := Heap.get?_update_self (Obj.mapSeq (·.push (Value.ref s.heap.objs.size))) hS1 rfl
        refine ⟨_, q.trans (congrArg (fun l : Array Value => some (seqObj "list" l _)) ?_)⟩
        show (Ts.map Value.ref).toArray.push (Value.ref s.heap.objs.size) = ((Ts ++ [s.heap.objs.size]).map Value.ref).toArray
        rw [List.push_toArray, List.map_append]
        rfl
      · exact hR h2 tk Us c2 u1 u0 u2 u3 fun b o b0 b1 b2 b3 b4 e => u4 b o b0 b1 b2 b3 b4 (other b o b0 (k b o b1 b2 b3 b4 e))
    rcases Z.zp with ⟨z1, a, b, z2⟩ | ⟨T, f, oT, z1, z2, z3⟩
    · refine wpAny_bind (PySem.wpAny_pyNext_zipD2_item D D1 D2 z1 Z.pr z2 Z.s1 Z.s2 (by omega) (by omega) fun x y h' tk px py b1 b2 b3 b4 b5 b6 k => ?_)
      exact turn h' tk x y px py ⟨_, false, _, b1, b5, hB⟩ b3 b4 b5 b6 fun b o n1 n2 n3 n4 e => k b o n1 n2 n3 n4 e
    · refine wpAny_bind (nextHeldItem D D1 D2 z1 z2 Z.pr Z.s1 Z.s2 (by omega) (by omega) fun x y h' tk px py b1 b3 b4 b5 b6 k => ?_)
      have n1 : T ≠ z := Nat.ne_of_gt (Nat.lt_of_lt_of_le lz z3)
      have n3 : T ≠ i1 := Nat.ne_of_gt (Nat.lt_of_lt_of_le li1 z3)
      have n4 : T ≠ i2 := Nat.ne_of_gt (Nat.lt_of_lt_of_le li2 z3)
      exact turn h' tk x y px py ⟨T, true, oT, b1, k _ _ n1 n3 n4 z2, z3⟩ b3 b4 b5 b6 fun b o n1 _ n3 n4 e => k b o n1 n3 n4 e
theorem listZipG {E : Value → Shared → Prop} {s : Shared} {Q : Value → Shared → Prop} (D : ZipSep2 z TI TO i1 i2 fp1 fp2) (D1 : Draws P w A.in1.in1.in1 i1 fp1 n P1 St1) (D2 : Draws P w A.in1.in1.in1 i2 fp2 n P2 St2) (few : n ≤ sizeLine) (hz : IsZip s.heap z TI TO .none) (hTI : IsPair s.heap TI (.ref i1) (.ref i2)) (hTO : IsPair s.heap TO .none .none)
    (h1 : St1 0 s.heap) (h2 : St2 0 s.heap) (in1 : ∀ b ∈ fp1, b < s.heap.objs.size) (in2 : ∀ b ∈ fp2, b < s.heap.objs.size)
    (hQ : ∀ (h' : Heap) (tk : Nat) (Us : List Addr) (c' : Nat), Us.length = n → Us.Nodup → (∀ (j : Nat) (T : Addr), Us[j]? = some T → s.heap.objs.size < T ∧ ∃ x y, P1 j x ∧ P2 j y ∧ IsPair h' T x y) → h'.get? s.heap.objs.size = some (seqObj "list" (Us.map Value.ref).toArray c') →
      (∀ b o, b ≠ z → b ≠ TO → b ≠ i1 → b ≠ i2 → s.heap.get? b = some o → h'.get? b = some o) → Q (.ref s.heap.objs.size) { s with heap := h', toks := tk }) :
    wpAny (model P w) A (call (.type "list") [.ref z]) Q E s := by
  refine callType_codes (Q₁ := fun obj s1 => obj = .ref s.heap.objs.size ∧ s1 = { s with heap := s.heap.push { cls := .type "list", data := .seq #[] } }) PySem.F.called_list (PySem.F.typeCall_list_1 _) PySem.F.entry_list_init (code_list_new _ ⟨rfl, rfl⟩) fun obj s1 hs1 => ?_
  obtain ⟨rfl, rfl⟩ := hs1
  have at0 : (s.heap.push { cls := .type "list", data := .seq #[] }).get? s.heap.objs.size = some { cls := .type "list", data := .seq #[] } := Heap.get?_push_size _ rfl
  have old : ∀ b o, s.heap.get? b = some o → (s.heap.push { cls := .type "list", data := .seq #[] }).get? b = some o := fun b o e => Heap.get?_push_of_some _ e
  refine ⟨⟨_, at0, rfl⟩, PySem.F.args_list_init_2 _ _, ?_⟩
  show wpAny _ _ (do let old ← Builtin.List.listItems (.ref s.heap.objs.size); Builtin.List.listUpdate (.ref s.heap.objs.size) (fun _ => #[]); letGo old.toList.reverse; Builtin.List.listExtendWith (.ref s.heap.objs.size) (.ref z) .none) _ _ _
  refine wpAny_bind ?_
  unfold Builtin.List.listItems
  refine wpAny_bind (wpAny_seqItems at0 rfl (wpAny_pure ?_))
  show wpAny _ _ (updateSeq s.heap.objs.size (fun _ => #[]) >>= fun _ => letGo (#[] : Array Value).toList.reverse >>= fun _ => Builtin.List.listExtendWith (.ref s.heap.objs.size) (.ref z) .none) _ _ _
  refine wpAny_bind (wpAny_updateSeq at0 rfl (wpAny_bind (wpAny_letGo ?_)))
  have at1 := Heap.get?_update_self (Obj.mapSeq (fun _ => (#[] : Array Value))) at0 rfl
  have ne : ∀ {b : Addr} {o : Obj}, s.heap.get? b = some o → s.heap.objs.size ≠ b := fun e => Nat.ne_of_gt (Heap.lt_size e)
  have old1 : ∀ b o, s.heap.get? b = some o → ((s.heap.push { cls := .type "list", data := .seq #[] }).update s.heap.objs.size (Obj.mapSeq (fun _ => (#[] : Array Value)))).get? b = some o := fun b o e => (Heap.get?_update_other _ _ (ne e)).trans (old b o e)
  generalize hh1 : ((s.heap.push { cls := .type "list", data := .seq #[] }).update s.heap.objs.size (Obj.mapSeq (fun _ => (#[] : Array Value)))) = hp1 at at1 old1
  have sz1 : hp1.objs.size = s.heap.objs.size + 1 := by rw [← hh1, Heap.size_update, Heap.size_push]
  unfold Builtin.List.listExtendWith
  have tz : Shared.TypeIs { s with heap := hp1 } (.ref z) "zip" := ⟨_, old1 _ _ hz, rfl⟩
  refine wpAny_bind (wpAny_typeOf tz ?_)
  have k1 : Builtin.List.listSameRef (.ref s.heap.objs.size) (.ref z) = false := by simp [Builtin.List.listSameRef, ne hz]
  have k2 : (Value.type "zip" == Value.type "list") = false := by decide
  have k3 : (Value.type "zip" == Value.type "tuple") = false := by decide
  simp only [k1, k2, k3, Bool.or_false, Bool.false_eq_true, if_false]
  refine wpAny_bind (wpAny_pyIter_zip (old1 _ _ hz) (wpAny_bind (wpAny_holding ?_)))
  unfold Builtin.List.listLengthHint
  refine wpAny_bind (wpAny_specialOf tz zip_no_len ?_)
  show wpAny _ _ (specialOf (Value.ref z) (Str.ofString "__length_hint__") >>= _) _ _ _
  refine wpAny_bind (wpAny_specialOf tz zip_no_hint (wpAny_pure ?_))
  show wpAny _ _ (rule "list.extend.makes-room" >>= fun _ => Builtin.List.listTouch (.ref s.heap.objs.size) >>= fun _ => again (.builtin "list.extend.loop" ⟨[.ref s.heap.objs.size, .ref z, .none], []⟩)) _ _ _
  refine wpAny_bind (wpAny_rule (wpAny_bind ?_))
  show wpAny _ _ (updateSeq s.heap.objs.size (·.push .none) >>= fun _ => updateSeq s.heap.objs.size (·.pop)) _ _ _
  refine wpAny_bind (wpAny_updateSeq at1 rfl ?_)
  have at2 := Heap.get?_update_self (Obj.mapSeq (·.push Value.none)) at1 rfl
  refine wpAny_updateSeq (hz := by seq_fits) at2 rfl ?_
  have at3 := Heap.get?_update_self (Obj.mapSeq (·.pop)) at2 rfl
  have old3 : ∀ b o, s.heap.get? b = some o → ((hp1.update s.heap.objs.size (Obj.mapSeq (·.push Value.none))).update s.heap.objs.size (Obj.mapSeq (·.pop))).get? b = some o := fun b o e => (Heap.get?_update_other _ _ (ne e)).trans ((Heap.get?_update_other _ _ (ne e)).trans (old1 b o e))
  have sz3 : ((hp1.update s.heap.objs.size (Obj.mapSeq (·.push Value.none))).update s.heap.objs.size (Obj.mapSeq (·.pop))).objs.size = s.heap.objs.size + 1 := by rw [Heap.size_update, Heap.size_update, sz1]
  generalize (hp1.update s.heap.objs.size (Obj.mapSeq (·.push Value.none))).update s.heap.objs.size (Obj.mapSeq (·.pop)) = hp3 at at3 old3 sz3
  refine wpAny_pure ⟨plainId_quiet PySem.F.plain_extend_loop _, ?_⟩
  have nS1 : s.heap.objs.size ∉ fp1 := fun q => Nat.lt_irrefl _ (in1 _ q)
  have nS2 : s.heap.objs.size ∉ fp2 := fun q => Nat.lt_irrefl _ (in2 _ q)
  refine zipLoopG D D1 D2 few (B := s.heap.objs.size + 1) (fun b hb => ?_) (Nat.lt_succ_self _) ⟨ne hz, ne hTI, ne hTO, nS1, nS2⟩ n 0 _ [] (Nat.zero_add _) (Nat.le_of_eq sz3.symm) ?_ ⟨_, at3⟩ fun h' tk Us c' u1 u0 u2 u3 u4 => ?_
  · have up : ∀ {b : Addr} {o : Obj}, s.heap.get? b = some o → b < s.heap.objs.size + 1 := fun e => Nat.lt_succ_of_lt (Heap.lt_size e)
    rcases hb with rfl | rfl | rfl | q | q
    · exact up hz
    · exact up hTI
    · exact up hTO
    · exact Nat.lt_succ_of_lt (in1 _ q)
    · exact Nat.lt_succ_of_lt (in2 _ q)
  · exact { pr := old3 _ _ hTI, s1 := D1.frame _ _ _ h1 fun b _ o e => old3 _ o e, s2 := D2.frame _ _ _ h2 fun b _ o e => old3 _ o e, zp := Or.inl ⟨old3 _ _ hz, _, _, old3 _ _ hTO⟩, len := rfl, nd := List.nodup_nil, out := fun j T hj => by simp at hj }
  · exact ⟨rfl, hQ h' tk Us c' u1 u0 u2 u3 fun b o b1 b2 b3 b4 e => u4 b o (Ne.symm (ne e)) b1 b2 b3 b4 (old3 b o e)⟩
end
theorem ne_nat {a b : Nat} (h : a ≠ b) : (show Addr from a) ≠ (show Addr from b) := h
theorem off_one {a n : Nat} (h : a ≠ n) : (show Addr from a) ∉ [(show Addr from n)] := fun q => h (List.mem_singleton.mp q)
theorem off_two {a m b : Nat} (h : a ≠ m) (k : a ≠ b) : (show Addr from a) ∉ [(show Addr from m), (show Addr from b)] := fun q => by
  rcases List.mem_cons.mp q with q | q
  · exact h q
  · exact k (List.mem_singleton.mp q)
theorem sep_new (n b : Nat) (h : b < n) : ZipSep2 (n + 4) (n + 2) (n + 3) n (n + 1) [n] [n + 1, b] where
  TIz := ne_nat (a := n + 2) (b := n + 4) (by omega)
  TOz := ne_nat (a := n + 3) (b := n + 4) (by omega)
  TITO := ne_nat (a := n + 2) (b := n + 3) (by omega)
  TIi1 := ne_nat (a := n + 2) (b := n) (by omega)
  mem1 := List.mem_singleton.mpr rfl
  zf1 := off_one (a := n + 4) (n := n) (by omega)
  Tf1 := off_one (a := n + 3) (n := n) (by omega)
  TIi2 := ne_nat (a := n + 2) (b := n + 1) (by omega)
  mem2 := List.mem_cons_self
  zf2 := off_two (a := n + 4) (m := n + 1) (b := b) (by omega) (by omega)
  Tf2 := off_two (a := n + 3) (m := n + 1) (b := b) (by omega) (by omega)
  sep1_2 := off_two (a := n) (m := n + 1) (b := b) (by omega) (by omega)
  sep2_1 := off_one (a := n + 1) (n := n) (by omega)
section
variable {X : Cx} {K : PySem.W.Frag}
def tListZipT (K : PySem.W.Frag) (ta : TA) : TE := fun σ H Q => ta σ H fun vs H1 => ∃ (x : Str) (b : Addr) (ys : List V), vs = [.str x, .ref b] ∧ x.cps.size ≤ 4000 ∧ SqL K H1 b ys ∧ ys.length = x.cps.size ∧
  ∀ (L : Addr) (H2 : Hp) (Ts : List Addr), H1 L = none → Same H1 H2 → H2 L = some (.lst (Ts.map V.ref)) → Ts.length = x.cps.size → (∀ (j c : Nat) (y : V), x.cps[j]? = some c → ys[j]? = some y → ∃ T, Ts[j]? = some T ∧ H2 T = some (.tup [sg c, y])) → Q (.ref L) H2
theorem rd_lzT {ta : TA} {σ : L2.St} {H : Hp} {Q : VK} (q : ta σ H fun vs H1 => ∃ (x : Str) (b : Addr) (ys : List V), vs = [.str x, .ref b] ∧ x.cps.size ≤ 4000 ∧ SqL K H1 b ys ∧ ys.length = x.cps.size ∧
  ∀ (L : Addr) (H2 : Hp) (Ts : List Addr), H1 L = none → Same H1 H2 → H2 L = some (.lst (Ts.map V.ref)) → Ts.length = x.cps.size → (∀ (j c : Nat) (y : V), x.cps[j]? = some c → ys[j]? = some y → ∃ T, Ts[j]? = some T ∧ H2 T = some (.tup [sg c, y])) → Q (.ref L) H2) : tListZipT K ta σ H Q := q
theorem pe_listZipT {e e2 : Expr} {ta : TA} {p p2 pos q : Pos} (hc : X.calm = true) (hg : Gl X "list") (hm : X.mg "list" = none) (hg2 : Gl X "zip") (hm2 : X.mg "zip" = none) (ha : PA X [e, e2] ta)
    (hs : starEach [e, e2] X.env = (false, eval e X.env) :: starEach [e2] X.env := by rfl) (hpl : (backTo q (starEach [e2] X.env)).any (·.1) = false := by rfl) (h : X.K = K := by rfl) :
    PE X (.Call (.Name "list" p) [.Call (.Name "zip" p2) [e, e2] [] q] [] pos) (tListZipT K ta) := by
  subst h
  refine ⟨fun pins s σ H Q I want => ?_⟩
  refine Call_ (ld_blt (u := .type "list") I hg hm (by decide +kernel) (PyProof.Rows.callWith_type1 (PyProof.Rows.args_cons ?_ rfl) rfl rfl))
  refine Call_ (ld_blt I hg2 hm2 PyProof.Rows.boot_zip (PyProof.Rows.callWith_type1 (thn (ha.run q pins s σ H _ I want) fun us s1 ⟨vs, H1, I1, r1, q1⟩ => ?_) hs hpl))
  obtain ⟨x, b, ys, ex, few, hy, len, qq⟩ := q1
  subst ex
  obtain ⟨u1, u2, rfl, ra, rb⟩ : ∃ u1 u2, us = [u1, u2] ∧ RelV (.str x) u1 ∧ RelV (.ref b) u2 := by
    cases r1 with
    | cons r rr =>
      cases rr with
      | cons r' rr =>
        cases rr
        exact ⟨_, _, rfl, r, r'⟩
  obtain ⟨t, rfl⟩ := ra
  cases rb
  obtain ⟨its2, rv2, p2', z2⟩ := I1.list hy
  have l2 := rv2.length
  have lb : b < s1.heap.objs.size := p2'.lt
  have lim : x.cps.size ≤ sizeLine := by rw [sizeLine_eq]; omega
  refine zip_begins2 (begins_text x t) (begins_list b its2.toArray) trivial p2'.isList fun h' hz hTI hTO w1 w2 hsz hk => ?_
  refine PyProof.Rows.args_nil ?_
  have hd := I1.ok.hd hc
  have D := sep_new s1.heap.objs.size b lb
  have e2 : its2.toArray.size = x.cps.size := by rw [List.size_toArray]; omega
  have D2 := Draws.list (prog := X.prog) (w := X.w) (A := X.A.in1.in1.in1) (by simp [hd]) (s1.heap.objs.size + 1) b (by exact Nat.ne_of_lt (Nat.lt_succ_of_lt lb)) its2.toArray
  rw [e2] at D2
  refine listZipG (s := { s1 with heap := h' }) D (Draws.text (by simp [hd]) s1.heap.objs.size x t) D2 lim hz hTI hTO ⟨_, w1, rfl, rfl⟩ ⟨⟨_, w2, rfl, rfl⟩, p2'.isList.at fun o e => hk _ o e⟩ (fun c q => by
    have q := List.mem_singleton.mp q
    rw [q]
    show s1.heap.objs.size < h'.objs.size
    rw [hsz]
    exact Nat.lt_add_of_pos_right (by decide)) (fun c q => by
    show c < h'.objs.size
    rw [hsz]
    rcases List.mem_cons.mp q with q | q
    · rw [q]
      exact Nat.add_lt_add_left (by decide) _
    · rw [List.mem_singleton.mp q]
      exact Nat.lt_add_right 5 lb) fun h2 tk Us c' n1 n0 n2 n3 n4 => ?_
  have above : ∀ {c : Addr} {o : Obj}, s1.heap.get? c = some o → h2.get? c = some o := fun {c o} e => by
    have lt := Heap.lt_size e
    exact n4 c o (Nat.ne_of_lt (Nat.lt_add_right 4 lt)) (Nat.ne_of_lt (Nat.lt_add_right 3 lt)) (Nat.ne_of_lt lt) (Nat.ne_of_lt (Nat.lt_add_right 1 lt)) (hk c o e)
  have hsz' : h'.objs.size = s1.heap.objs.size + 5 := hsz
  -- what is tracked from here on
  have bigT : ∀ (j : Nat) (T : Addr), Us[j]? = some T → h'.objs.size < T := fun j T hj => (n2 j T hj).1
  have newT : ∀ T ∈ Us, H1 T = none ∧ T ≠ h'.objs.size := fun T hT => by
    obtain ⟨j, hj⟩ := List.mem_iff_getElem?.mp hT
    have := bigT j T hj
    exact ⟨I1.hok.fresh (Nat.le_of_lt (Nat.lt_of_le_of_lt (by rw [hsz']; exact Nat.le_add_right _ _) this)), Nat.ne_of_gt this⟩
  have newL : H1 h'.objs.size = none := I1.hok.fresh (by rw [hsz']; exact Nat.le_add_right _ _)
  have at_ : ∀ (j : Nat) (T : Addr), Us[j]? = some T → ∃ x' y u v, (x.cps.toList.map sg)[j]? = some x' ∧ ys[j]? = some y ∧ RelV x' u ∧ RelV y v ∧ IsPair h2 T u v := fun j T hj => by
    obtain ⟨_, u, v, e1, e2, pr⟩ := n2 j T hj
    obtain ⟨c, t', ec, rfl⟩ := e1
    obtain ⟨y, ey, ry⟩ := vals_get rv2 (j := j) (u := v) (by simpa using e2)
    exact ⟨sg c, y, _, v, by rw [List.getElem?_map, Array.getElem?_toList, ec]; rfl, ey, ⟨t', rfl⟩, ry, pr⟩
  let H2 : Hp := fun c => if c = h'.objs.size then some (.lst (Us.map V.ref)) else if c ∈ Us then some (.tup (pick2 Us (x.cps.toList.map sg) ys c)) else H1 c
  have gL : H2 h'.objs.size = some (.lst (Us.map V.ref)) := if_pos rfl
  have gT : ∀ (j : Nat) (T : Addr) (x' y : V), Us[j]? = some T → (x.cps.toList.map sg)[j]? = some x' → ys[j]? = some y → H2 T = some (.tup [x', y]) := fun j T x' y hj hx hy => by
    have hT := List.mem_of_getElem? hj
    show (if T = h'.objs.size then _ else if T ∈ Us then _ else _) = _
    rw [if_neg (newT T hT).2, if_pos hT, pick2_at n0 hj hx hy]
  have same2 : Same H1 H2 := fun c o e => by
    have m1 : c ≠ h'.objs.size := fun z => by
      rw [z, newL] at e
      cases e
    have m2 : c ∉ Us := fun z => by
      rw [(newT c z).1] at e
      cases e
    show (if c = h'.objs.size then _ else if c ∈ Us then _ else _) = _
    rw [if_neg m1, if_neg m2]
    exact e
  have szU : (Us.map V.ref).length ≤ sizeLine := by rw [List.length_map, n1]; exact lim
  have un : Un (frs X.stack) [] H1 H2 s1.heap h2 := Un.more (fun c o e => above e) same2 fun c e lt => by
    show (if c = h'.objs.size then _ else if c ∈ Us then _ else _) = _
    rw [if_neg fun z => by rw [z, hsz'] at lt; exact Nat.not_lt_of_le (Nat.le_add_right _ 5) lt, if_neg fun z => ?_]
    · exact e
    · obtain ⟨j, hj⟩ := List.mem_iff_getElem?.mp z
      have q := bigT j c hj
      rw [hsz'] at q
      exact Nat.lt_irrefl _ (Nat.lt_of_lt_of_le (Nat.lt_of_lt_of_le lt (Nat.le_add_right _ 5)) (Nat.le_of_lt q))
  have hok : HOk X.prog X.w H2 h2 := HOk.more I1.hok (fun c o e => above e) same2 fun c o e0 e => by
    have e' : (if c = h'.objs.size then some (.lst (Us.map V.ref)) else if c ∈ Us then some (.tup (pick2 Us (x.cps.toList.map sg) ys c)) else H1 c) = some o := e
    by_cases c1 : c = h'.objs.size
    · rw [if_pos c1] at e'
      cases e'
      subst c1
      exact ⟨szU, Us.map Value.ref, c', vals_refs Us, n3⟩
    · rw [if_neg c1] at e'
      by_cases c2 : c ∈ Us
      · obtain ⟨j, hj⟩ := List.mem_iff_getElem?.mp c2
        obtain ⟨x', y, u, v, ex, ey, rx, ry, pr⟩ := at_ j c hj
        have g := gT j c x' y hj ex ey
        rw [e] at g
        cases g
        refine ⟨by show 2 ≤ sizeLine; decide, [u, v], .cons rx (.cons ry .nil), _, pr, rfl, 0, rfl⟩
      · rw [if_neg c2, e0] at e'
        cases e'
  exact ⟨.ref h'.objs.size, H2, I1.call' (ch := []) rfl un hok I1.bare (fun _ z => nomatch z), rfl, qq h'.objs.size H2 Us newL same2 gL n1 fun j c y hx hy => by
    have lt : j < Us.length := by
      have := (Array.getElem?_eq_some_iff.mp hx).1
      omega
    exact ⟨Us[j], List.getElem?_eq_getElem lt, gT j _ (sg c) y (List.getElem?_eq_getElem lt) (by rw [List.getElem?_map, Array.getElem?_toList, hx]; rfl) hy⟩⟩
end
end LX

/-! Calls that write two or three lists; results that are owned. -/
namespace LQ
open PySem L2 LX
mutual
theorem Fr.hidF {F0 G : Hp} {ps : List Addr} (hp : ∀ p ∈ ps, ∀ xs, G p ≠ some (.tup xs)) : ∀ {v : V} {d : PyData}, Fr F0 G v d → flatD d = true → Fr F0 (hid G ps) v d
  | _, _, .non, _ => .non
  | _, _, .bl b, _ => .bl b
  | _, _, .int i, _ => .int i
  | _, _, .str x, _ => .str x
  | _, _, .lst _ _ _, e => by simp [flatD] at e
  | _, _, .tup h hs, e => .tup (by rw [hid_out fun z => hp _ z _ h]; exact h) (FrL.hidF hp hs (by simpa only [flatD] using e))
  | _, _, .dic _ _ _, e => by simp [flatD] at e
theorem FrL.hidF {F0 G : Hp} {ps : List Addr} (hp : ∀ p ∈ ps, ∀ xs, G p ≠ some (.tup xs)) : ∀ {v : List V} {d : List PyData}, FrL F0 G v d → flatDs d = true → FrL F0 (hid G ps) v d
  | _, _, .nil, _ => .nil
  | _, _, .cons h hs, e => by
    simp only [flatDs, Bool.and_eq_true] at e
    exact .cons (Fr.hidF hp h e.1) (FrL.hidF hp hs e.2)
end
section
variable {ms : List Addr} {H0 F0 G G1 G2 H H' : Hp} {cs : List (Addr × HO)} {p q r a : Addr} {o1 o2 o3 u1 u2 u3 : HO} {vs us ws : List V} {ds : List PyData}
theorem Sep.unshare (S : Sep ms H0 G2 H' cs) (f : Fr H0 G2 (.ref a) (.list ds)) : ∃ G' vs, Sep ms H0 G' H' ((a, .lst vs) :: cs) ∧ H0 a = none ∧ FrL H0 G' vs ds ∧ (∀ G0, Same G0 G2 → G0 a = none → Same G0 G') ∧ ∀ F0 vs ds, FrL F0 G2 vs ds → flatDs ds = true → FrL F0 G' vs ds := by
  obtain ⟨vs, h1, h2⟩ := li f
  have n0 := li0 f
  have out : ∀ b, b ≠ a → hid G2 [a] b = G2 b := fun b hb => hid_out fun z => hb (List.mem_singleton.mp z)
  refine ⟨hid G2 [a], vs, ⟨fun b o e => S.sub b o (hid_some e).2, fun c hc => ?_, List.nodup_cons.mpr ⟨fun z => ?_, S.nd⟩, fun p hp => List.mem_cons_of_mem _ (S.msc p hp), S.hms, S.old, fun b o e n => ?_, fun b xs e => ?_⟩, n0, FrL.off f h2 (by simp), fun G0 s n b o e => ?_, fun F0 vs ds h e => h.hidF (fun p hp xs z => ?_) e⟩
  · rcases List.mem_cons.mp hc with z | z
    · rw [z]
      exact ⟨S.sub _ _ h1, hid_in (List.mem_singleton.mpr rfl), lst_tup⟩
    · obtain ⟨k1, k2, k3⟩ := S.cel c z
      refine ⟨k1, ?_, k3⟩
      by_cases e : c.1 = a
      · exact hid_in (List.mem_singleton.mpr e)
      · rw [out _ e]
        exact k2
  · obtain ⟨c, hc, e⟩ := List.mem_map.mp z
    have := (S.cel c hc).2.1
    rw [e, h1] at this
    cases this
  · rw [out b fun z => by rw [z, n0] at e; cases e]
    exact S.base b o e n
  · have g := S.tups b xs e
    rw [out b fun z => by rw [z, h1] at g; cases g]
    exact g
  · rw [out b fun z => by rw [z, n] at e; cases e]
    exact s b o e
  · rw [List.mem_singleton.mp hp, h1] at z
    cases z
theorem ix_fst {i : Nat} {c : Addr × HO} (h : cs[i]? = some c) : (cs.map (·.1))[i]? = some c.1 := by rw [List.getElem?_map, h]; rfl
/-- after a call that has written the i-th and the j-th -/
theorem Sep.ret2 (S : Sep ms H0 G H cs) (i j : Nat) (hi : cs[i]? = some (p, o1)) (hj : cs[j]? = some (q, o2)) (n : i ≠ j) (R : Ret [p, q] H G1 H') (hp : H' p = some u1) (hq : H' q = some u2) (k1 : ∀ xs, u1 ≠ .tup xs) (k2 : ∀ xs, u2 ≠ .tup xs) :
    ∃ G', Sep ms H0 G' H' ((cs.set i (p, u1)).set j (q, u2)) ∧ Same G G' ∧ (∀ v d, Fr H G1 v d → Fr H0 G' v d) ∧ ∀ v d, FrL H G1 v d → FrL H0 G' v d := by
  have hj' : (cs.set i (p, u1))[j]? = some (q, o2) := by rw [List.getElem?_set_ne n]; exact hj
  refine S.ret R (fun b hb => ?_) ((map_fst_set hj').trans (map_fst_set hi)) fun c hc => ?_
  · rcases List.mem_cons.mp hb with z | z
    · rw [z]
      exact List.mem_map.mpr ⟨_, List.mem_of_getElem? hi, rfl⟩
    · rw [List.mem_singleton.mp z]
      exact List.mem_map.mpr ⟨_, List.mem_of_getElem? hj, rfl⟩
  · obtain ⟨l, hl⟩ := List.getElem?_of_mem hc
    by_cases e2 : l = j
    · subst e2
      rw [List.getElem?_set_self (List.getElem?_eq_some_iff.mp hj').1] at hl
      cases hl
      exact ⟨hq, k2⟩
    · rw [List.getElem?_set_ne (Ne.symm e2)] at hl
      by_cases e1 : l = i
      · subst e1
        rw [List.getElem?_set_self (List.getElem?_eq_some_iff.mp hi).1] at hl
        cases hl
        exact ⟨hp, k1⟩
      · rw [List.getElem?_set_ne (Ne.symm e1)] at hl
        have m := S.cel c (List.mem_of_getElem? hl)
        refine ⟨R.sub _ _ (R.base _ _ m.1 fun z => ?_), m.2.2⟩
        rcases List.mem_cons.mp z with z | z
        · exact e1 (nodup_ix S.nd (by rw [ix_fst hl, z]) (ix_fst hi))
        · exact e2 (nodup_ix S.nd (by rw [ix_fst hl, List.mem_singleton.mp z]) (ix_fst hj))
theorem Sep.ret3 (S : Sep ms H0 G H cs) (i j k : Nat) (hi : cs[i]? = some (p, o1)) (hj : cs[j]? = some (q, o2)) (hk : cs[k]? = some (r, o3)) (n1 : i ≠ j) (n2 : i ≠ k) (n3 : j ≠ k) (R : Ret [p, q, r] H G1 H') (hp : H' p = some u1) (hq : H' q = some u2) (hr : H' r = some u3) (k1 : ∀ xs, u1 ≠ .tup xs) (k2 : ∀ xs, u2 ≠ .tup xs) (k3 : ∀ xs, u3 ≠ .tup xs) :
    ∃ G', Sep ms H0 G' H' (((cs.set i (p, u1)).set j (q, u2)).set k (r, u3)) ∧ Same G G' ∧ (∀ v d, Fr H G1 v d → Fr H0 G' v d) ∧ ∀ v d, FrL H G1 v d → FrL H0 G' v d := by
  have hj' : (cs.set i (p, u1))[j]? = some (q, o2) := by rw [List.getElem?_set_ne n1]; exact hj
  have hk' : ((cs.set i (p, u1)).set j (q, u2))[k]? = some (r, o3) := by rw [List.getElem?_set_ne n3, List.getElem?_set_ne n2]; exact hk
  refine S.ret R (fun b hb => ?_) (((map_fst_set hk').trans (map_fst_set hj')).trans (map_fst_set hi)) fun c hc => ?_
  · rcases List.mem_cons.mp hb with z | z
    · rw [z]
      exact List.mem_map.mpr ⟨_, List.mem_of_getElem? hi, rfl⟩
    · rcases List.mem_cons.mp z with z | z
      · rw [z]
        exact List.mem_map.mpr ⟨_, List.mem_of_getElem? hj, rfl⟩
      · rw [List.mem_singleton.mp z]
        exact List.mem_map.mpr ⟨_, List.mem_of_getElem? hk, rfl⟩
  · obtain ⟨l, hl⟩ := List.getElem?_of_mem hc
    by_cases e3 : l = k
    · subst e3
      rw [List.getElem?_set_self (List.getElem?_eq_some_iff.mp hk').1] at hl
      cases hl
      exact ⟨hr, k3⟩
    · rw [List.getElem?_set_ne (Ne.symm e3)] at hl
      by_cases e2 : l = j
      · subst e2
        rw [List.getElem?_set_self (List.getElem?_eq_some_iff.mp hj').1] at hl
        cases hl
        exact ⟨hq, k2⟩
      · rw [List.getElem?_set_ne (Ne.symm e2)] at hl
        by_cases e1 : l = i
        · subst e1
          rw [List.getElem?_set_self (List.getElem?_eq_some_iff.mp hi).1] at hl
          cases hl
          exact ⟨hp, k1⟩
        · rw [List.getElem?_set_ne (Ne.symm e1)] at hl
          have m := S.cel c (List.mem_of_getElem? hl)
          refine ⟨R.sub _ _ (R.base _ _ m.1 fun z => ?_), m.2.2⟩
          rcases List.mem_cons.mp z with z | z
          · exact e1 (nodup_ix S.nd (by rw [ix_fst hl, z]) (ix_fst hi))
          · rcases List.mem_cons.mp z with z | z
            · exact e2 (nodup_ix S.nd (by rw [ix_fst hl, z]) (ix_fst hj))
            · exact e3 (nodup_ix S.nd (by rw [ix_fst hl, List.mem_singleton.mp z]) (ix_fst hk))
theorem Sep.hid2 (S : Sep ms H0 G H cs) (i j : Nat) (hi : cs[i]? = some (p, o1)) (hj : cs[j]? = some (q, o2)) : Same G (hid H [p, q]) := S.hidS fun b hb => by
  rcases List.mem_cons.mp hb with z | z
  · rw [z]
    exact S.gnone i hi
  · rw [List.mem_singleton.mp z]
    exact S.gnone j hj
theorem Sep.hid3 (S : Sep ms H0 G H cs) (i j k : Nat) (hi : cs[i]? = some (p, o1)) (hj : cs[j]? = some (q, o2)) (hk : cs[k]? = some (r, o3)) : Same G (hid H [p, q, r]) := S.hidS fun b hb => by
  rcases List.mem_cons.mp hb with z | z
  · rw [z]
    exact S.gnone i hi
  · rcases List.mem_cons.mp z with z | z
    · rw [z]
      exact S.gnone j hj
    · rw [List.mem_singleton.mp z]
      exact S.gnone k hk
theorem Sep.start3 (h : H p = some (.lst us)) (k : H q = some (.lst vs)) (l : H r = some (.lst ws)) (n1 : p ≠ q) (n2 : p ≠ r) (n3 : q ≠ r) : Sep [p, q, r] H (hid H [p, q, r]) H [(p, .lst us), (q, .lst vs), (r, .lst ws)] :=
  Sep.startM H [(p, .lst us), (q, .lst vs), (r, .lst ws)] (fun c hc => by
    rcases List.mem_cons.mp hc with z | z
    · rw [z]
      exact ⟨h, lst_tup⟩
    · rcases List.mem_cons.mp z with z | z
      · rw [z]
        exact ⟨k, lst_tup⟩
      · rw [List.mem_singleton.mp z]
        exact ⟨l, lst_tup⟩) (by simp [n1, n2, n3])
/-- another owned list, read by a call that writes ps -/
theorem Sep.rdM (S : Sep ms H0 G H cs) {ps : List Addr} (j : Nat) (hj : cs[j]? = some (q, .lst vs)) (n : q ∉ ps) (s : Same G (hid H ps)) (f : FrL F0 G vs ds) : Fr E0h (hid H ps) (.ref q) (.list ds) :=
  .lst (by rw [hid_out n]; exact S.get j hj) rfl ((f.rp).same s)
end
def compLS {α β S : Type} (f : α → S → Option (Option β × S)) (l : List α) (s : S) : Option (List β × S) := cond (decide (l.length ≤ LIM)) (compS f l s) none
section
variable {ms : List Addr} {H0 F0 G H : Hp} {α β S : Type} {K : PySem.W.Frag}
theorem q_lcLS {J : It} {Gd : Hp → Prop} {Y : Nat → Hp → V → Hp → Prop} {g : TG} {σ : L2.St} {f : α → S → Option (Option β × S)} {xs : List α} {ys : List β} {s0 s1 : S} {enc : β → PyData} {c : S → List (Addr × HO)} {A : Addr} {Qd : Hp → Prop} {tt : TT} {te : TE} {vs : List Nat}
    (hf : compLS f xs s0 = some (ys, s1)) (w : Walk J xs.length Gd Y) (S0 : Sep ms H0 G H (c s0)) (hA : H A = none) (hF : ∀ b, H b = none → F0 b = none)
    (hg : ∀ s G' H' acc, Sep ms H0 G' H' ((A, .lst acc) :: c s) → Same G G' → Gd H')
    (hs : ∀ i x a s o s' G1 H1 H2 acc, xs[i]? = some a → f a s = some (o, s') → Sep ms H0 G1 H1 ((A, .lst acc) :: c s) → Same G G1 → Y i H1 x H2 →
      ∀ (T : V → Hp → Prop) (F : Hp → Prop), (∀ y b G' H', o = some b → Sep ms H0 G' H' ((A, .lst acc) :: c s') → Same G1 G' → Fr F0 G' y (enc b) → T y H') → (∀ G' H', o = none → Sep ms H0 G' H' ((A, .lst acc) :: c s') → Same G1 G' → F H') →
      g x (wipe σ vs) H2 fun σ2 H2 => wipe σ2 vs = wipe σ vs ∧ tt σ2 H2 fun b H3 => if b = true then te σ2 H3 T else F H3)
    (hd : ∀ G' H' us, Sep ms H0 G' H' ((A, .lst us) :: c s1) → Same G G' → FrL F0 G' us (ys.map enc) → H0 A = none → F0 A = none → Qd H') : LcG J g tt te vs σ H A Qd := by
  unfold compLS at hf
  obtain ⟨h1, h2⟩ := grd hf
  exact q_lcS h2 (of_decide_eq_true h1) w S0 hA hF hg hs hd
end
theorem q_neScr {ms : List Addr} {F0 H0 G H : Hp} {cs : List (Addr × HO)} {a : Addr} {y : V} {K : PySem.W.Frag} {Q : VK} {ns : List Int} {m : List Int} {c : Bool} (S : Sep ms H0 G H cs) (f : Scr K G a ns) (g : Fr F0 H y (eL eI m)) (h : eqvF (eL eI ns) (eL eI m) = some c) (q : Q (.bl (!c)) H) : rNeD K (.ref a) y H Q := by
  obtain ⟨h1, h2, h3, h4, h5⟩ := eqv_ok h
  exact ⟨_, _, .lst (f.same S.sub).seq (dp_ints ns), g.dp h4, h1, h2, by rw [h5]; exact q⟩
theorem rd_lzTZ {K : PySem.W.Frag} {ta : TA} {σ : L2.St} {H : Hp} {Q : VK} (q : ta σ H fun vs H1 => zLzT K vs H1 Q) : tListZipT K ta σ H Q := q
end LQ

/-! ### sorted(text) -/
namespace LX
open PySem PySem.Spec PyProof.Rows L2
section
variable {P : Program} {w : World} {A : Around} {E : Value → Shared → Prop} {s : Shared}
theorem sortStr {x : Str} {t : Tok} {Q : Value → Shared → Prop} (few : x.cps.size ≤ 4000) (hh : A.handled = none)
    (hQ : ∀ (s2 : Shared) (h1 : Heap) (p : Addr) (out : Array Value) (c : Nat) (ys : List Str), (∀ b o, s.heap.get? b = some o → s2.heap.get? b = some o) → s2.gens = s.gens → s2.os = s.os → (∀ b o, s.heap.get? b = some o → h1.get? b = some o) → h1.objs.size ≤ p → s2.heap.get? p = some (seqObj "list" out c) → StrsAre out.toList ys →
      sortedS ys = true → ys.Perm (x.cps.toList.map fun c => (⟨#[c]⟩ : Str)) → Q (.ref p) s2) :
    wpAny (model P w) A (call (.builtin "sorted") [.str x t]) Q E s := by
  have lim : x.cps.size ≤ sizeLine := by rw [sizeLine_eq]; omega
  refine Calls.call_function_entry kind_sorted plain_sorted entry_sorted (args_sorted1 _) ?_
  unfold Builtin.«sorted»
  refine wpAny_bind (m := checkCount "sorted" 1 1 _) (wpAny_pure (wpAny_bind (PySem.wpAny_collect_str (A := A.in1) hh x t (hn := lim) fun s1 acc k1 g1 d1 o1 it => ?_)))
  have vv : Vals (x.cps.toList.map fun c => V.str ⟨#[c]⟩) acc.toList := by
    refine vals_strs_of _ _ (by rw [Array.length_toList, Array.length_toList]; exact it.1) fun j u hu => ?_
    obtain ⟨c, t', e1, e2⟩ := it.2 j u (by simpa using hu)
    exact ⟨c, t', by simpa using e1, e2⟩
  have txt : StrsAre acc.toList (x.cps.toList.map fun c => (⟨#[c]⟩ : Str)) := strs_of_vals (by rw [List.map_map]; exact vv)
  have few2 : acc.toList.length ≤ sizeLine := by rw [Array.length_toList, it.1]; exact lim
  have at0 : (s1.heap.push (seqObj "list" acc.toList.toArray 0)).get? s1.heap.objs.size = some (seqObj "list" acc.toList.toArray 0) := Heap.get?_push_size _ rfl
  refine wpAny_bind (wpAny_newList (wpAny_bind (wpAny_holding (wpAny_call_entry slot_list_sort ⟨_, at0, rfl⟩ entry_list_sort
    (list_sort_treeKAny PyProof.Rows.strKind_oneLt at0 txt.keysOf (fun v1 v2 rest e => keyKind_strs (by rw [← e]; exact txt)) few2 fun st p1 p2 => ⟨_, rfl, ?_⟩) (args_list_sort _)))) few2)
  obtain ⟨ys, y1, y2, y3⟩ := sorted_out_str txt p1 p2
  obtain ⟨c, hc⟩ := sortedHeap_at (vs := acc.toList) (out := (arrOf st).map (·.2)) at0
  refine wpAny_pure ⟨_, rfl, hQ _ s1.heap s1.heap.objs.size _ c ys (fun b u e => ?_) g1 o1 k1 (Nat.le_refl _) hc y1 y3 y2⟩
  have q := k1 b u e
  have lt := Heap.lt_size q
  exact (sortedHeap_old (Nat.ne_of_lt lt) (by rw [size_push']; exact Nat.lt_succ_of_lt lt)).trans (Heap.get?_push_of_some _ q)
end
section
variable {X : Cx}
def rSortX : List V → Hp → VK → Prop := fun xs H Q => ∃ z : Str, xs = [.str z] ∧ z.cps.size ≤ 4000 ∧
  ∀ p ys, H p = none → sortedS ys = true → ys.Perm (z.cps.toList.map fun c => (⟨#[c]⟩ : Str)) → Q (.ref p) (upd H p (.lst (ys.map V.str)))
theorem ksortX (hc : X.calm = true) : CallR X (.builtin "sorted") rSortX := by
  intro pins s σ H xs us Q I r h
  obtain ⟨z, rfl, few, q⟩ := h
  obtain ⟨u, rfl, t, rfl⟩ := vals1 r
  refine sortStr few (I.ok.hd hc) fun s2 h1 p out c ys k2 g2 o2 k1 hp at2 y1 y3 pm => ?_
  have hn : H p = none := HOk.fresh (fun b u e => (I.hok b u e).stay (fun c v _ q => k1 c v q) (fun c q => q) fun c xs q => q : HOk X.prog X.w H h1) hp
  have hs : s.heap.get? p = none := by
    cases e : s.heap.get? p with
    | none => rfl
    | some o => exact absurd (Heap.lt_size (k1 _ _ e)) (Nat.not_lt.mpr hp)
  have sz : (ys.map V.str).length ≤ sizeLine := by
    rw [List.length_map, pm.length_eq, List.length_map, Array.length_toList, sizeLine_eq]
    omega
  exact ⟨.ref p, _, I.call' (ch := []) o2 (Un.laidN k2 hs hn) (I.hok.laidN (o := .lst (ys.map V.str)) k2 hn ⟨sz, out.toList, c, vals_of_strs y1, at2⟩) (by rw [g2]; exact I.bare) (fun _ z => nomatch z), rfl, q p ys hn y3 pm⟩
end
end LX

/-! Lists of a dict's keys. -/
namespace LQ
open PySem PySem.Spec PyProof.Rows L2 LX
def zListD : List V → Hp → VK → Prop := fun xs H Q => ∃ (a : Addr) (kvs : List (Key × V)), xs = [.ref a] ∧ Rd H a (.dK kvs) ∧ ∀ p, H p = none → Q (.ref p) (upd H p (.lst (kvs.map fun kv => kV kv.1)))
theorem klistD {X : Cx} (hcalm : X.calm = true) : CallR X (.type "list") zListD := call_listD hcalm
section
variable {κ α : Type} [DecidableEq κ] {kk : κ → Key} {e : α → PyData} {F0 H0 G G' H H' : Hp} {kvs : List (Key × V)} {l : List (κ × α)} {k : κ} {x : α} {v y : V} {a b : Addr} {ms : List Addr} {cs : List (Addr × HO)} {Q : VK} {K : PySem.W.Frag}
theorem q_listD {kv : κ → V} (hk : ∀ k, kV (kk k) = kv k) (h1 : Rd H a (.dK kvs)) (f : FrK F0 G kvs (l.map fun p => (dKey (kk p.1), e p.2))) (q : zNew ((dkeys l).map kv) H Q) : zListD [.ref a] H Q := by
  refine ⟨a, kvs, rfl, h1, fun p hp => ?_⟩
  have : kvs.map (fun kv => kV kv.1) = (dkeys l).map kv := by
    have h := congrArg (List.map kV) (frk_keys f)
    rw [List.map_map, List.map_map] at h
    unfold dkeys
    rw [List.map_map]
    refine h.trans (List.map_congr_left fun p _ => hk p.1)
  rw [this]
  exact q p hp
theorem q_sortX {z : Str} {y : List Str} (h : charsF z = some y) (q : zNew ((sortS y).map V.str) H Q) : rSortX [.str z] H Q := by
  unfold charsF at h
  obtain ⟨h1, h2⟩ := grd h
  cases som h2
  refine ⟨z, rfl, of_decide_eq_true h1, fun p ys hp s pm => ?_⟩
  have : ys = sortS (chars z) := by
    unfold sortS
    exact List.Perm.eq_of_pairwise (le := fun a b => leS a b = true) (fun a b _ _ x y => leS_anti x y) (sorted_pw s) (List.pairwise_mergeSort leS_trans leS_total _) (pm.trans (List.mergeSort_perm _ _).symm)
  rw [this]
  exact q p hp
def sortSF (l : List Str) : Option (List Str) := cond (decide (l.length < 64)) (some (sortS l)) none
theorem q_sortSL {l y : List Str} (h1 : H a = some (.lst vs)) (f : FrL F0 G vs (l.map eS)) (h : sortSF l = some y) (q : zNew (y.map V.str) H Q) : rSortedS K [.ref a] H Q := by
  unfold sortSF at h
  obtain ⟨h2, h3⟩ := grd h
  cases som h3
  rw [frl_strs f] at h1
  refine ⟨a, l, rfl, SqL.of h1, of_decide_eq_true h2, fun ys p pm s np => ?_⟩
  have : ys = sortS l := by
    unfold sortS
    exact List.Perm.eq_of_pairwise (le := fun a b => leS a b = true) (fun a b _ _ x y => leS_anti x y) (sorted_pw s) (List.pairwise_mergeSort leS_trans leS_total _) (pm.trans (List.mergeSort_perm _ _).symm)
  rw [this]
  exact q p np
def idxF {α : Type} [DecidableEq α] (l : List α) (x : α) : Option Int := (l.findIdx? fun a => decide (a = x)).map fun j : Nat => (j : Int)
theorem idx_at {α : Type} [DecidableEq α] {l : List α} {x : α} {i : Int} (h : idxF l x = some i) : ∃ j : Nat, i = (j : Int) ∧ l[j]? = some x ∧ ∀ m, m < j → ∀ z, l[m]? = some z → z ≠ x := by
  unfold idxF at h
  obtain ⟨j, hj, rfl⟩ := Option.map_eq_some_iff.mp h
  obtain ⟨h1, h2, h3⟩ := List.findIdx?_eq_some_iff_getElem.mp hj
  refine ⟨j, rfl, by rw [List.getElem?_eq_getElem h1, of_decide_eq_true h2], fun m hm z hz e => ?_⟩
  have := h3 m hm
  rw [List.getElem?_eq_getElem (by omega)] at hz
  cases hz
  exact absurd (decide_eq_true e) (by simpa using this)
theorem q_idxS {l : List Str} {x : Str} {i : Int} (h1 : H a = some (.lst vs)) (f : FrL F0 G vs (l.map eS)) (h : idxF l x = some i) (q : Q (.int i) H) : rIndex K (.ref a) [.str x] H Q := by
  rw [frl_strs f] at h1
  obtain ⟨j, rfl, h2, h3⟩ := idx_at h
  refine ⟨a, l.map V.str, .str x, j, .str x, rfl, rfl, SqL.of h1, rfl, by rw [List.all_eq_true]; rintro _ hz; obtain ⟨u, _, rfl⟩ := List.mem_map.mp hz; rfl, by rw [List.getElem?_map, h2]; rfl, by show (x == x) = true; exact beq_self_eq_true x, fun m z' hm hz => ?_, q⟩
  rw [List.getElem?_map] at hz
  obtain ⟨u, hu, rfl⟩ := Option.map_eq_some_iff.mp hz
  show (u == x) = false
  exact beq_eq_false_iff_ne.mpr (h3 m hm u hu)
theorem q_idxI {l : List Int} {x : Int} {i : Int} (h1 : H a = some (.lst vs)) (f : FrL F0 G vs (l.map eI)) (h : idxF l x = some i) (q : Q (.int i) H) : rIndex K (.ref a) [.int x] H Q := by
  rw [frl_ints f] at h1
  obtain ⟨j, rfl, h2, h3⟩ := idx_at h
  refine ⟨a, l.map V.int, .int x, j, .int x, rfl, rfl, SqL.of h1, rfl, by rw [List.all_eq_true]; rintro _ hz; obtain ⟨u, _, rfl⟩ := List.mem_map.mp hz; rfl, by rw [List.getElem?_map, h2]; rfl, by show (x == x) = true; exact beq_self_eq_true x, fun m z' hm hz => ?_, q⟩
  rw [List.getElem?_map] at hz
  obtain ⟨u, hu, rfl⟩ := Option.map_eq_some_iff.mp hz
  show (u == x) = false
  exact beq_eq_false_iff_ne.mpr (h3 m hm u hu)
end
section
variable {X : Cx} {K : PySem.W.Frag}
theorem ksortedS (h : X.K = K := by rfl) : CallR X (.builtin "sorted") (rSortedS K) := h ▸ cr_sortedS
theorem kindex (h : X.K = K := by rfl) : MtR X "list.index" (rIndex K) := h ▸ mt_index
end
end LQ

/-! min and max of lists of numbers. -/
namespace LQ
open PySem PySem.Spec PyProof.Rows L2 LX PySem.W
def minL : List Int → Option Int
  | [] => none
  | x :: xs => some (xs.foldl min x)
def maxL : List Int → Option Int
  | [] => none
  | x :: xs => some (xs.foldl max x)
def minDL (l : List Int) (d : Int) : Int := match l with
  | [] => d
  | x :: xs => xs.foldl min x
theorem foldmin : ∀ (xs : List Int) (x : Int), (xs.foldl min x = x ∨ xs.foldl min x ∈ xs) ∧ xs.foldl min x ≤ x ∧ ∀ y ∈ xs, xs.foldl min x ≤ y
  | [], x => ⟨Or.inl rfl, Int.le_refl _, fun y h => nomatch h⟩
  | z :: xs, x => by
    obtain ⟨h1, h2, h3⟩ := foldmin xs (min x z)
    rw [List.foldl_cons]
    refine ⟨?_, by omega, fun y hy => ?_⟩
    · rcases h1 with h1 | h1
      · rw [h1]
        by_cases c : x ≤ z
        · exact Or.inl (by omega)
        · exact Or.inr (by rw [show min x z = z by omega]; exact List.mem_cons_self)
      · exact Or.inr (List.mem_cons_of_mem _ h1)
    · rcases List.mem_cons.mp hy with e | e
      · rw [e]; omega
      · exact h3 y e
theorem foldmax : ∀ (xs : List Int) (x : Int), (xs.foldl max x = x ∨ xs.foldl max x ∈ xs) ∧ x ≤ xs.foldl max x ∧ ∀ y ∈ xs, y ≤ xs.foldl max x
  | [], x => ⟨Or.inl rfl, Int.le_refl _, fun y h => nomatch h⟩
  | z :: xs, x => by
    obtain ⟨h1, h2, h3⟩ := foldmax xs (max x z)
    rw [List.foldl_cons]
    refine ⟨?_, by omega, fun y hy => ?_⟩
    · rcases h1 with h1 | h1
      · rw [h1]
        by_cases c : z ≤ x
        · exact Or.inl (by omega)
        · exact Or.inr (by rw [show max x z = z by omega]; exact List.mem_cons_self)
      · exact Or.inr (List.mem_cons_of_mem _ h1)
    · rcases List.mem_cons.mp hy with e | e
      · rw [e]; omega
      · exact h3 y e
theorem minL_is {l : List Int} {m k : Int} (h : minL l = some m) (h1 : k ∈ l) (h2 : ∀ y ∈ l, k ≤ y) : k = m := by
  cases l with
  | nil => cases h
  | cons x xs =>
    cases som h
    obtain ⟨a, b, c⟩ := foldmin xs x
    have e1 := h2 (xs.foldl min x) (by rcases a with a | a; · rw [a]; exact List.mem_cons_self
                                       · exact List.mem_cons_of_mem _ a)
    rcases List.mem_cons.mp h1 with e | e
    · omega
    · have := c k e
      omega
theorem maxL_is {l : List Int} {m k : Int} (h : maxL l = some m) (h1 : k ∈ l) (h2 : ∀ y ∈ l, y ≤ k) : k = m := by
  cases l with
  | nil => cases h
  | cons x xs =>
    cases som h
    obtain ⟨a, b, c⟩ := foldmax xs x
    have e1 := h2 (xs.foldl max x) (by rcases a with a | a; · rw [a]; exact List.mem_cons_self
                                       · exact List.mem_cons_of_mem _ a)
    rcases List.mem_cons.mp h1 with e | e
    · omega
    · have := c k e
      omega
section
variable {X : Cx} {F0 H0 G H : Hp} {a : Addr} {vs : List V} {Q : VK} {K : PySem.W.Frag} {l : List Int} {m : Int}
theorem kmin1 (hc : X.calm = true) (h : X.K = K := by rfl) : CallR X (.builtin "min") (rMin K) := h ▸ cr_min hc
theorem kmax1 (hc : X.calm = true) (h : X.K = K := by rfl) : CallR X (.builtin "max") (rMax K) := h ▸ cr_max hc
theorem q_min1 (h1 : H a = some (.lst vs)) (f : FrL F0 G vs (l.map eI)) (h : minL l = some m) (q : Q (.int m) H) : rMin K [.ref a] H Q := by
  rw [frl_ints f] at h1
  refine ⟨a, l, rfl, SqL.of h1, ?_, fun k h2 h3 => by rw [minL_is h h2 h3]; exact q⟩
  cases l with
  | nil => cases h
  | cons => exact Nat.succ_pos _
theorem q_max1 (h1 : H a = some (.lst vs)) (f : FrL F0 G vs (l.map eI)) (h : maxL l = some m) (q : Q (.int m) H) : rMax K [.ref a] H Q := by
  rw [frl_ints f] at h1
  refine ⟨a, l, rfl, SqL.of h1, ?_, fun k h2 h3 => by rw [maxL_is h h2 h3]; exact q⟩
  cases l with
  | nil => cases h
  | cons => exact Nat.succ_pos _
def zMinD (K : PySem.W.Frag) : List V → List V → Hp → VK → Prop := fun xs zs H Q => ∃ a ns d, xs = [.ref a] ∧ zs = [.int d] ∧ SqL K H a (ns.map V.int) ∧ Q (.int (minDL ns d)) H
theorem kminD (hc : X.calm = true) (hu : X.A.units + 64 < cLine) (h : X.K = K := by rfl) : CallRK X (.builtin "min") [Str.ofString "default"] (zMinD K) := by
  subst h
  intro pins s σ H xs zs us ws Q I r rz h
  obtain ⟨a, ns, d, rfl, rfl, hs, q⟩ := h
  obtain rfl := Vals.ref1 r
  obtain ⟨w1, rfl, t, rfl⟩ := vals1 rz
  obtain ⟨its, rv, hl, _⟩ := I.list hs
  refine min_list_datum_default (α := Int) (I.ok.hd hc) hl.isList (HoldAll.of_ints (by rw [List.toList_toArray]; exact rv.ints)) (by show X.A.units + 1 + 0 < cLine; omega) (fun e h' tk hk => ?_) fun y ys i v h' tk e hi hv hk => ?_
  · subst e
    exact ⟨.int d, H, I.kept hk, ⟨_, rfl⟩, q⟩
  · subst e
    obtain ⟨as, rd⟩ := hv
    obtain ⟨t2, rfl, _⟩ := reads_int_inv rd
    have : minOf y ys = ys.foldl min y := by
      unfold minOf
      have : ∀ (ys : List Int) (y : Int), ys.foldl (fun a y => if DatumOrd.lt y a = true then y else a) y = ys.foldl min y := by
        intro ys
        induction ys with
        | nil => intro y; rfl
        | cons z zs ih =>
          intro y
          rw [List.foldl_cons, List.foldl_cons, ← ih]
          congr 1
          show (if decide (z < y) = true then z else y) = min y z
          split
          · rename_i c; have := of_decide_eq_true c; omega
          · rename_i c; have : ¬ z < y := fun h => c (decide_eq_true h); omega
      exact this ys y
    exact ⟨.int _, H, I.kept hk, ⟨t2, rfl⟩, by
      rw [this]
      exact q⟩
theorem q_minD {d : Int} (h1 : H a = some (.lst vs)) (f : FrL F0 G vs (l.map eI)) (q : Q (.int (minDL l d)) H) : zMinD K [.ref a] [.int d] H Q := by
  rw [frl_ints f] at h1
  exact ⟨a, l, d, rfl, rfl, SqL.of h1, q⟩
theorem rd_kwMin {ta tk : TA} {σ : L2.St} (q : ta σ H fun vs H1 => tk σ H1 fun zs H2 => zMinD K vs zs H2 Q) : tCKw (zMinD K) ta tk σ H Q := q
end
section
variable {α : Type} {e : α → PyData} {F0 G : Hp} {a : Addr} {vs : List V} {l : List α} {K : PySem.W.Frag}
theorem w_rev (f : FrL F0 G vs (l.map e)) : Walk (Itv K a vs.length) l.reverse.length (fun H => H a = some (.lst vs)) (fun i H v H' => H' = H ∧ ∀ x, l.reverse[i]? = some x → Fr F0 G v (e x)) := by
  have h : l.reverse.length = vs.length := by rw [List.length_reverse, f.len, List.length_map]
  rw [h]
  refine walk_rev.mono (fun _ h => SqL.of h) fun i H x H' hi _ y => ⟨y.1, fun z hz => ?_⟩
  have hl : l.length = vs.length := by rw [f.len, List.length_map]
  rw [List.getElem?_reverse (by omega), hl] at hz
  exact frl_at f hz y.2
theorem rd_iRevZ {ta : TA} {σ : L2.St} {H : Hp} {R : It → Hp → Prop} (q : ta σ H fun vs H1 => ∃ (a : Addr) (xs : List V), vs = [.ref a] ∧ SqL K H1 a xs ∧ R (Itv K a xs.length) H1) : iRev K ta σ H R := q
end
section
variable {F0 G H : Hp} {a : Addr} {vs : List V} {Q : VK} {K : PySem.W.Frag}
theorem frl_oI {l : List (Option Int)} (h : FrL F0 G vs (l.map (eO eI))) : vs = l.map (vO V.int) := by
  induction l generalizing vs with
  | nil => cases h; rfl
  | cons x l ih => cases h with
    | cons f hs => rw [List.map_cons, ih hs, fr_oI f]
theorem frl_oS {l : List (Option Str)} (h : FrL F0 G vs (l.map (eO eS))) : vs = l.map (vO V.str) := by
  induction l generalizing vs with
  | nil => cases h; rfl
  | cons x l ih => cases h with
    | cons f hs => rw [List.map_cons, ih hs, fr_oS f]
theorem eqV_oI (i j : Option Int) : eqV (vO V.int i) (vO V.int j) = decide (i = j) := by
  cases i <;> cases j <;> first | rfl | (rename_i a b; exact Bool.eq_iff_iff.mpr ⟨fun h => decide_eq_true (by rw [eq_of_beq (show (a == b) = true from h)]), fun h => by have h2 := Option.some.inj (of_decide_eq_true h); subst h2; exact beq_self_eq_true a⟩)
theorem eqV_oS (i j : Option Str) : eqV (vO V.str i) (vO V.str j) = decide (i = j) := by
  cases i <;> cases j <;> first | rfl | (rename_i a b; exact Bool.eq_iff_iff.mpr ⟨fun h => decide_eq_true (by rw [eq_of_beq (show (a == b) = true from h)]), fun h => by have h2 := Option.some.inj (of_decide_eq_true h); subst h2; exact beq_self_eq_true a⟩)
theorem inV_o {β : Type} {f : β → V} (hf : ∀ i j, eqV (f i) (f j) = true ↔ i = j) (i : β) (l : List β) [Decidable (i ∈ l)] : inV (f i) (l.map f) = decide (i ∈ l) := by
  unfold inV
  rw [List.any_map]
  by_cases h : i ∈ l
  · rw [decide_eq_true h]
    exact List.any_eq_true.mpr ⟨i, h, (hf i i).mpr rfl⟩
  · rw [decide_eq_false h]
    refine Bool.eq_false_iff.mpr fun z => h ?_
    obtain ⟨k, h1, h2⟩ := List.any_eq_true.mp z
    first
      | exact (hf _ _).mp h2 ▸ h1
      | exact ((hf _ _).mp h2).symm ▸ h1
theorem iff_oI (i j : Option Int) : eqV (vO V.int i) (vO V.int j) = true ↔ i = j := by rw [eqV_oI, decide_eq_true_iff]
theorem iff_oS (i j : Option Str) : eqV (vO V.str i) (vO V.str j) = true ↔ i = j := by rw [eqV_oS, decide_eq_true_iff]
theorem flatV_oI (o : Option Int) : flatV (vO V.int o) = true := by cases o <;> rfl
theorem flatV_oS (o : Option Str) : flatV (vO V.str o) = true := by cases o <;> rfl
theorem all_oI (l : List (Option Int)) : (l.map (vO V.int)).all flatV = true := by
  rw [List.all_eq_true]
  intro x hx
  obtain ⟨o, _, rfl⟩ := List.mem_map.mp hx
  exact flatV_oI o
theorem all_oS (l : List (Option Str)) : (l.map (vO V.str)).all flatV = true := by
  rw [List.all_eq_true]
  intro x hx
  obtain ⟨o, _, rfl⟩ := List.mem_map.mp hx
  exact flatV_oS o
theorem q_inOI {i : Option Int} {l : List (Option Int)} (h : H a = some (.lst vs)) (f : FrL F0 G vs (l.map (eO eI))) (q : Q (.bl (decide (i ∈ l))) H) : rIn K false (vO V.int i) (.ref a) H Q := by
  rw [frl_oI f] at h
  exact rd_isin h (flatV_oI i) (all_oI l) (inV_o iff_oI i l) q
theorem q_niOI {i : Option Int} {l : List (Option Int)} (h : H a = some (.lst vs)) (f : FrL F0 G vs (l.map (eO eI))) (q : Q (.bl (!decide (i ∈ l))) H) : rIn K true (vO V.int i) (.ref a) H Q := by
  rw [frl_oI f] at h
  exact rd_notin h (flatV_oI i) (all_oI l) (inV_o iff_oI i l) q
theorem q_inOS {i : Option Str} {l : List (Option Str)} (h : H a = some (.lst vs)) (f : FrL F0 G vs (l.map (eO eS))) (q : Q (.bl (decide (i ∈ l))) H) : rIn K false (vO V.str i) (.ref a) H Q := by
  rw [frl_oS f] at h
  exact rd_isin h (flatV_oS i) (all_oS l) (inV_o iff_oS i l) q
theorem q_niOS {i : Option Str} {l : List (Option Str)} (h : H a = some (.lst vs)) (f : FrL F0 G vs (l.map (eO eS))) (q : Q (.bl (!decide (i ∈ l))) H) : rIn K true (vO V.str i) (.ref a) H Q := by
  rw [frl_oS f] at h
  exact rd_notin h (flatV_oS i) (all_oS l) (inV_o iff_oS i l) q
/-- none of them is None -/
def unO {α : Type} : List (Option α) → Option (List α)
  | [] => some []
  | x :: xs => x.bind fun y => (unO xs).bind fun ys => some (y :: ys)
theorem unO_is {α : Type} : ∀ {l : List (Option α)} {m : List α}, unO l = some m → l = m.map some
  | [], m, h => by cases som h; rfl
  | x :: xs, m, h => by
    obtain ⟨y, h1, h⟩ := bnd h
    obtain ⟨ys, h2, h⟩ := bnd h
    cases som h
    rw [List.map_cons, ← unO_is h2, h1]
theorem frl_un {α : Type} {e : α → PyData} {l : List (Option α)} {m : List α} (h : unO l = some m) (f : FrL F0 G vs (l.map (eO e))) : FrL F0 G vs (m.map e) := by
  rw [unO_is h, List.map_map] at f
  exact f
end
theorem rd_lenAL {K : PySem.W.Frag} {xs : List V} {H : Hp} {Q : VK} (q : qLen K xs H Q) : qLenA K xs H Q := Or.inl q
theorem rd_lenAS {K : PySem.W.Frag} {xs : List V} {H : Hp} {Q : VK} (q : zLenS xs H Q) : qLenA K xs H Q := Or.inr q
theorem rd_listAL {K : PySem.W.Frag} {xs : List V} {H : Hp} {Q : VK} (q : qList K xs H Q) : qListA K xs H Q := Or.inl q
theorem rd_listAS {K : PySem.W.Frag} {xs : List V} {H : Hp} {Q : VK} (q : rListS xs H Q) : qListA K xs H Q := Or.inr q
section
variable {F0 G G' : Hp} {a : Addr}
theorem Fr.frzor {v : V} {x : PyData} (f : Fr F0 G v x) (d : G' = G ∨ FrzG G a G') : Fr F0 G' v x := by
  rcases d with rfl | d
  · exact f
  · exact f.frz d
theorem FrL.frzor {v : List V} {x : List PyData} (f : FrL F0 G v x) (d : G' = G ∨ FrzG G a G') : FrL F0 G' v x := by
  rcases d with rfl | d
  · exact f
  · exact f.frz d
theorem FrK.frzor {v : List (Key × V)} {x : List (PyData × PyData)} (f : FrK F0 G v x) (d : G' = G ∨ FrzG G a G') : FrK F0 G' v x := by
  rcases d with rfl | d
  · exact f
  · exact f.frz d
theorem _root_.LX.Scr.frzor {K : PySem.W.Frag} {ns : List Int} {l : Addr} (f : Scr K G l ns) (d : G' = G ∨ FrzG G a G') : Scr K G' l ns := by
  rcases d with rfl | d
  · exact f
  · exact f.frz d
end
theorem rd_zpA {K : PySem.W.Frag} {ta : TA} {σ : L2.St} {H : Hp} {R : It → Hp → Prop} (q : ta σ H fun vs H1 => ∃ a b xs ys, vs = [.ref a, .ref b] ∧ ((SqL K H1 a xs ∧ SqL K H1 b ys ∧ R (Itz K a b) H1) ∨ (SqT K H1 a xs ∧ SqT K H1 b ys ∧ R (RZ.ItzT K a b) H1))) : RZ.iZipA K ta σ H R := q
end LQ

/-! Data that a law's comparing def finds equal: lists and plain values, less deep than n. -/
namespace LQ
open PySem L2 LX
def okSD : Nat → PyData → PyData → Bool
  | 0, _, _ => false
  | n + 1, d, e => match d, e with
    | .none, .none => true
    | .bool a, .bool b => a == b
    | .int a, .int b => a == b
    | .str a, .str b => a == b
    | .list xs, .list ys => decide (xs.length = ys.length) && decide (xs.length ≤ 1000) && (xs.zip ys).all fun p => okSD n p.1 p.2
    | _, _ => false
/-- the same with tuples, without truth values -/
def okST : Nat → PyData → PyData → Bool
  | 0, _, _ => false
  | n + 1, d, e => match d, e with
    | .none, .none => true
    | .int a, .int b => a == b
    | .str a, .str b => a == b
    | .list xs, .list ys => decide (xs.length = ys.length) && decide (xs.length ≤ 1000) && (xs.zip ys).all fun p => okST n p.1 p.2
    | .tuple xs, .tuple ys => decide (xs.length = ys.length) && decide (xs.length ≤ 1000) && (xs.zip ys).all fun p => okST n p.1 p.2
    | _, _ => false
/-- two values that are the same data -/
def SDL : Nat → Hp → V → V → Prop
  | 0, _, _, _ => False
  | n + 1, H, v, e => ((v = .non ∧ e = .non) ∨ ∃ b : Bool, v = .bl b ∧ e = .bl b) ∨ (∃ i : Int, v = .int i ∧ e = .int i) ∨ (∃ x : Str, v = .str x ∧ e = .str x) ∨
    (∃ (c d : Addr) (xs ys : List V), v = .ref c ∧ e = .ref d ∧ H c = some (.lst xs) ∧ H d = some (.lst ys) ∧ xs.length = ys.length ∧ xs.length ≤ 1000 ∧ ∀ (i : Nat) (x y : V), xs[i]? = some x → ys[i]? = some y → SDL n H x y)
theorem SDL.mono {H H' : Hp} (s : Same H H') : ∀ (n : Nat) (v e : V), SDL n H v e → SDL n H' v e
  | 0, _, _, h => h.elim
  | n + 1, v, e, h => by
    rcases h with h | h | h | ⟨c, d, xs, ys, rfl, rfl, h1, h2, h3, h4, h5⟩
    · exact Or.inl h
    · exact Or.inr (Or.inl h)
    · exact Or.inr (Or.inr (Or.inl h))
    · exact Or.inr (Or.inr (Or.inr ⟨c, d, xs, ys, rfl, rfl, s _ _ h1, s _ _ h2, h3, h4, fun i x y hx hy => SDL.mono s n x y (h5 i x y hx hy)⟩))
theorem frl_get {F0 G : Hp} : ∀ {vs : List V} {ds : List PyData} (i : Nat) {v : V}, FrL F0 G vs ds → vs[i]? = some v → ∃ d, ds[i]? = some d ∧ Fr F0 G v d
  | _, _, _, _, .nil, h => by simp at h
  | _, _, 0, _, .cons f _, h => ⟨_, rfl, by cases (show some _ = some _ from h); exact f⟩
  | _, _, i + 1, _, .cons _ fs, h => frl_get i fs h
theorem sdl_of {H : Hp} : ∀ (n : Nat) {v e : V} {x y : PyData}, Fr E0h H v x → Fr E0h H e y → okSD n x y = true → SDL n H v e
  | 0, _, _, _, _, _, _, h => nomatch h
  | n + 1, v, e, x, y, f, g, h => by
    cases f with
    | non => cases g <;> first | exact Or.inl (Or.inl ⟨rfl, rfl⟩) | exact absurd h Bool.false_ne_true
    | bl b =>
      cases g with
      | bl c =>
        have : b = c := eq_of_beq (show (b == c) = true from h)
        subst this
        exact Or.inl (Or.inr ⟨b, rfl, rfl⟩)
      | _ => exact absurd h Bool.false_ne_true
    | int i =>
      cases g with
      | int j =>
        have : i = j := eq_of_beq (show (i == j) = true from h)
        subst this
        exact Or.inr (Or.inl ⟨i, rfl, rfl⟩)
      | _ => exact absurd h Bool.false_ne_true
    | str i =>
      cases g with
      | str j =>
        have : i = j := eq_of_beq (show (i == j) = true from h)
        subst this
        exact Or.inr (Or.inr (Or.inl ⟨i, rfl, rfl⟩))
      | _ => exact absurd h Bool.false_ne_true
    | lst h1 _ hs =>
      cases g with
      | lst k1 _ ks =>
        simp only [okSD, Bool.and_eq_true, decide_eq_true_iff, List.all_eq_true] at h
        refine Or.inr (Or.inr (Or.inr ⟨_, _, _, _, rfl, rfl, h1, k1, by rw [hs.len, ks.len]; exact h.1.1, by rw [hs.len]; exact h.1.2, fun i u w hu hw => ?_⟩))
        obtain ⟨d, hd, fd⟩ := frl_get i hs hu
        obtain ⟨d2, hd2, fd2⟩ := frl_get i ks hw
        refine sdl_of n fd fd2 (h.2 (d, d2) ?_)
        refine List.mem_of_getElem? (i := i) ?_
        rw [List.getElem?_zip_eq_some]
        exact ⟨hd, hd2⟩
      | _ => exact absurd h Bool.false_ne_true
    | tup h1 hs => cases g <;> exact absurd h Bool.false_ne_true
    | dic h1 _ hs => cases g <;> exact absurd h Bool.false_ne_true
theorem Ret.same {H H' : Hp} (s : Same H H') : Ret [] H H' H' := ⟨fun _ _ e => e, fun _ h => absurd h List.not_mem_nil, fun b o e _ => s b o e, (fun b e => by
  cases h : H b with
  | none => rfl
  | some o => rw [s b o h] at e; cases e), fun _ _ e => e⟩
/-- data that are lists of plain values are the same as themselves -/
theorem okSD_list {α : Type} {e : α → PyData} {n : Nat} {l : List α} (z : l.length ≤ 1000) (h : ∀ x ∈ l, okSD n (e x) (e x) = true) : okSD (n + 1) (eL e l) (eL e l) = true := by
  show (decide ((l.map e).length = (l.map e).length) && decide ((l.map e).length ≤ 1000) && ((l.map e).zip (l.map e)).all fun p => okSD n p.1 p.2) = true
  rw [decide_eq_true rfl, decide_eq_true (by rw [List.length_map]; exact z), Bool.true_and, Bool.true_and, List.all_eq_true]
  intro p hp
  have key : ∀ l : List α, (∀ x ∈ l, okSD n (e x) (e x) = true) → ∀ p ∈ (l.map e).zip (l.map e), okSD n p.1 p.2 = true := by
    intro l
    induction l with
    | nil => intro _ p hp; cases hp
    | cons x l ih =>
      intro h p hp
      rw [List.map_cons, List.zip_cons_cons] at hp
      rcases List.mem_cons.mp hp with c | c
      · rw [c]; exact h x List.mem_cons_self
      · exact ih (fun y hy => h y (List.mem_cons_of_mem _ hy)) p c
  exact key l h p hp
theorem okSD_int (n : Nat) (i : Int) : okSD (n + 1) (eI i) (eI i) = true := beq_self_eq_true i
theorem okSD_str (n : Nat) (i : Str) : okSD (n + 1) (eS i) (eS i) = true := beq_self_eq_true i
theorem okSD_bool (n : Nat) (i : Bool) : okSD (n + 1) (eB i) (eB i) = true := beq_self_eq_true i
theorem okSD_oI (n : Nat) (i : Option Int) : okSD (n + 1) (eO eI i) (eO eI i) = true := by
  cases i
  · rfl
  · exact beq_self_eq_true _
end LQ
namespace LQF
def F__law_same (x y : PySem.PyData) : Option Bool := cond (LQ.okSD 4 x y) (some true) none
def F__law_equal (x y : PySem.PyData) : Option Bool := cond (LQ.okST 4 x y) (some true) none
end LQF

/-! Deep members, locked dicts, lists shown at once. -/
namespace LQ
open PySem PySem.Spec PyProof.Rows L2 LX
theorem units65 {k : Nat} {A : Around} (r : Room k A) : A.units + 65 < cLine := by have := r.un; omega
section
variable {ms : List Addr} {F0 F1 H0 G G' H H' H2 : Hp} {cs : List (Addr × HO)} {a b p : Addr} {vs us : List V} {K : PySem.W.Frag} {Q : VK} {v x y : V} {d : PyData} {ds : List PyData} {X : Cx}
theorem kinD (hu : X.A.units + 65 < cLine) (h : X.K = K := by rfl) : OpR X (compareOp .In) (rInD K) := h ▸ op_inD hu
theorem knotInD (hu : X.A.units + 65 < cLine) (h : X.K = K := by rfl) : OpR X (compareOp .NotIn) (rNotInD K) := h ▸ op_notInD hu
theorem kindexD (hu : X.A.units + 65 < cLine) (h : X.K = K := by rfl) : MtR X "list.index" (rIndexD K) := h ▸ mt_indexD hu
def okD (d : PyData) : Bool := SeqAt.shaped d && !d.hasDict
def inDF (d : PyData) (ds : List PyData) : Option Bool := cond (okD d && okD (.list ds)) (some (ds.any fun z => PyData.eqv z d)) none
def idxDF (d : PyData) (ds : List PyData) : Option Int := cond (okD d && okD (.list ds)) ((ds.findIdx? fun z => PyData.eqv z d).map fun j : Nat => (j : Int)) none
theorem okD_is (h : okD d = true) : SeqAt.shaped d = true ∧ d.hasDict = false := by
  unfold okD at h
  rw [Bool.and_eq_true, Bool.not_eq_true'] at h
  exact h
theorem inDF_is {t : Bool} (h : inDF d ds = some t) : (SeqAt.shaped d = true ∧ d.hasDict = false) ∧ (SeqAt.shaped (.list ds) = true ∧ (PyData.list ds).hasDict = false) ∧ (ds.any fun z => PyData.eqv z d) = t := by
  unfold inDF at h
  obtain ⟨h1, h2⟩ := grd h
  rw [Bool.and_eq_true] at h1
  exact ⟨okD_is h1.1, okD_is h1.2, som h2⟩
theorem q_inD {t : Bool} (f : Fr F0 H x d) (g : Fr F1 H y (.list ds)) (h : inDF d ds = some t) (q : Q (.bl t) H) : rInD K x y H Q := by
  obtain ⟨h1, h2, h3⟩ := inDF_is h
  exact ⟨d, ds, f.dp h1.2, g.dp h2.2, h1.1, h2.1, by rw [h3]; exact q⟩
theorem q_niD {t : Bool} (f : Fr F0 H x d) (g : Fr F1 H y (.list ds)) (h : inDF d ds = some t) (q : Q (.bl (!t)) H) : rNotInD K x y H Q := by
  obtain ⟨h1, h2, h3⟩ := inDF_is h
  exact ⟨d, ds, f.dp h1.2, g.dp h2.2, h1.1, h2.1, by rw [h3]; exact q⟩
theorem findIdx_is {α : Type} {p : α → Bool} : ∀ {l : List α} {j : Nat}, l.findIdx? p = some j → (∃ z, l[j]? = some z ∧ p z = true) ∧ ∀ m z, m < j → l[m]? = some z → p z = false := fun {l j} h => by
  obtain ⟨h1, h2, h3⟩ := List.findIdx?_eq_some_iff_getElem.mp h
  refine ⟨⟨l[j], List.getElem?_eq_getElem h1, h2⟩, fun m z hm hz => ?_⟩
  obtain ⟨h4, h5⟩ := List.getElem?_eq_some_iff.mp hz
  have := h3 m hm
  rw [h5] at this
  simpa using this
theorem q_idxD {i : Int} (f : Fr F0 H x d) (g : Fr F1 H (.ref a) (.list ds)) (h : idxDF d ds = some i) (q : Q (.int i) H) : rIndexD K (.ref a) [x] H Q := by
  unfold idxDF at h
  obtain ⟨h1, h2⟩ := grd h
  rw [Bool.and_eq_true] at h1
  obtain ⟨k1, k2⟩ := okD_is h1.1
  obtain ⟨k3, k4⟩ := okD_is h1.2
  obtain ⟨j, hj, e⟩ := Option.map_eq_some_iff.mp h2
  obtain ⟨⟨z, h3, h4⟩, h5⟩ := findIdx_is hj
  exact ⟨a, x, d, ds, j, z, rfl, rfl, g.dp k4, f.dp k2, k3, k1, h3, h4, fun m z' hm hz => h5 m z' hm hz, by
    have e' : (Int.ofNat j) = i := e
    show Q (.int (Int.ofNat j)) H
    rw [e']
    exact q⟩
theorem frl_some {α : Type} {e : α → PyData} {l : List α} (f : FrL F0 G vs (l.map e)) : FrL F0 G vs ((l.map some).map (eO e)) := by rw [List.map_map]; exact f
/-- a list for the moment: it holds what is read now, owned things too -/
theorem q_lstT (S : Sep ms H0 G H cs) (z : vs.length ≤ LIM) (f : FrL E0h H vs ds) (q : ∀ p G' H', Sep ms H0 G' H' cs → Same G G' → Fr E0h H' (.ref p) (.list ds) → Q (.ref p) H') : zLst vs H Q :=
  ⟨lim_le z, fun p hp => q p _ _ (S.sh hp) (sNew (S.gfree hp)) (.lst upd_same rfl (f.same (sNew hp)))⟩
/-! an owned dict that is walked in an expression -/
theorem frz_tup {od : Obj} {u : HO} : ∀ xs, HO.frz od u ≠ .tup xs := fun _ z => by cases z
theorem dK_tup {kvs : List (Key × V)} : ∀ xs, HO.dK kvs ≠ .tup xs := fun _ z => by cases z
theorem q_lockE {t : TE} {σ : L2.St} {kvs : List (Key × V)} (S : Sep ms H0 G H cs) (i : Nat) (h : cs[i]? = some (a, .dK kvs)) (q : ∀ od H', Sep ms H0 G H' (cs.set i (a, .frz od (.dK kvs))) → t σ H' fun v H2 => H2 a = some (.frz od (.dK kvs)) ∧ Q v (upd H2 a (.dK kvs))) : tLockE t σ H Q :=
  ⟨a, _, S.get i h, True.intro, fun od => q od _ (S.put i h frz_tup)⟩
theorem q_unlockE {kvs : List (Key × V)} {od : Obj} (S : Sep ms H0 G H cs) (i : Nat) (h : cs[i]? = some (a, .frz od (.dK kvs))) (q : ∀ H', Sep ms H0 G H' (cs.set i (a, .dK kvs)) → Q v H') : H a = some (.frz od (.dK kvs)) ∧ Q v (upd H a (.dK kvs)) :=
  ⟨S.get i h, q _ (S.put i h dK_tup)⟩
def lkD (D : Ends) (a : Addr) (od : Obj) (u : HO) : Ends := ⟨fun σ' H' => H' a = some (.frz od u) ∧ D.nx σ' (upd H' a u), fun v H' => H' a = some (.frz od u) ∧ D.rt v (upd H' a u), fun σ' H' => H' a = some (.frz od u) ∧ D.bk σ' (upd H' a u), fun σ' H' => H' a = some (.frz od u) ∧ D.ct σ' (upd H' a u)⟩
theorem q_lockS {t : TS} {D : Ends} {σ : L2.St} {kvs : List (Key × V)} (S : Sep ms H0 G H cs) (i : Nat) (h : cs[i]? = some (a, .dK kvs)) (q : ∀ od H', Sep ms H0 G H' (cs.set i (a, .frz od (.dK kvs))) → t (lkD D a od (.dK kvs)) σ H') : tLock t D σ H :=
  ⟨a, _, S.get i h, True.intro, fun od => q od _ (S.put i h frz_tup)⟩
theorem q_unlockS {D : Ends} {σ : L2.St} {kvs : List (Key × V)} {od : Obj} (S : Sep ms H0 G H cs) (i : Nat) (h : cs[i]? = some (a, .frz od (.dK kvs))) (q : ∀ H', Sep ms H0 G H' (cs.set i (a, .dK kvs)) → D.nx σ H') : (lkD D a od (.dK kvs)).nx σ H :=
  ⟨S.get i h, q _ (S.put i h dK_tup)⟩
end
end LQ

/-! min of a list of alike data; tuples of what is owned. -/
namespace LQ
open PySem PySem.Spec PyProof.Rows L2 LX
theorem minD_mem : ∀ (xs : List PyData) (x : PyData), PySem.W.minD x xs ∈ x :: xs
  | [], x => List.mem_cons_self
  | y :: xs, x => by
    show PySem.W.minD (if PySem.W.dataLt y x then y else x) xs ∈ _
    have := minD_mem xs (if PySem.W.dataLt y x then y else x)
    rcases List.mem_cons.mp this with h | h
    · rw [h]
      split
      · exact List.mem_cons_of_mem _ List.mem_cons_self
      · exact List.mem_cons_self
    · exact List.mem_cons_of_mem _ (List.mem_cons_of_mem _ h)
def zMinT (K : PySem.W.Frag) : List V → Hp → VK → Prop := fun vs H Q => ∃ (a : Addr) (xs : List V) (x : PyData) (r : List PyData), vs = [.ref a] ∧ SqL K H a xs ∧ DpAll K H xs (x :: r) ∧ PySem.W.AlikeAll (x :: r) ∧ PyData.canLayAll0 (x :: r) = true ∧ PyData.depthAll (x :: r) ≤ 60 ∧
  ∀ (i : Nat) (v : V), xs[i]? = some v → (x :: r)[i]? = some (PySem.W.minD x r) → Q v H
theorem canLay_mem : ∀ {ds : List PyData} {d : PyData}, PyData.canLayAll0 ds = true → d ∈ ds → d.canLay0 = true
  | [], _, _, h => nomatch h
  | x :: ds, d, c, h => by
    simp only [PyData.canLayAll0, Bool.and_eq_true] at c
    rcases List.mem_cons.mp h with e | e
    · rw [e]; exact c.1
    · exact canLay_mem c.2 e
theorem kminT {X : Cx} {K : PySem.W.Frag} (hc : X.calm = true) (hu : X.A.units + 64 < cLine) (h : X.K = K := by rfl) : CallR X (.builtin "min") (zMinT K) := by
  subst h
  intro pins s σ H vs us Q I r h
  obtain ⟨a, xs, x, ds, rfl, hs, ha, al, cl, dp, q⟩ := h
  obtain rfl := Vals.ref1 r
  obtain ⟨its, rv, hl, _⟩ := I.list hs
  obtain ⟨as, h4⟩ := Dp.readsAll I (x :: ds) _ its ha rv
  refine PySem.W.min_list_data (I.ok.hd hc) hl.isList (x := x) (xs := ds) (as := as) (by rw [List.toList_toArray]; exact h4) al (by show X.A.units + 1 + _ < cLine; omega) fun i u h' tk bs hi hr hk => ?_
  have hi' : its[i]? = some u := by simpa using hi
  have il := (List.getElem?_eq_some_iff.mp hi').1
  have hv : xs[i]? = some (xs[i]'(by rw [rv.length]; exact il)) := List.getElem?_eq_getElem _
  obtain ⟨u', hu', ru⟩ := rv.get hv
  rw [hi'] at hu'
  cases hu'
  obtain ⟨cs, r2, i2, m2, _⟩ := PySem.W.readsAll_at h4 i u hi'
  have e1 := SeqAt.readOf_eq (canLay_mem cl (minD_mem ds x)) hr
  have e2 := SeqAt.readOf_eq (canLay_mem cl m2) (PySem.W.reads_keeps hk r2)
  refine ⟨_, H, I.kept hk, ru, q i _ hv ?_⟩
  rw [List.getElem?_eq_getElem i2, ← e1, e2]
  congr 1
  rw [List.getD_eq_getElem?_getD, List.getElem?_eq_getElem i2]
  rfl
/-- the least, typed -/
def minAt {α : Type} (e : α → PyData) : List α → Option α
  | [] => none
  | x :: xs => cond (((x :: xs).all fun a => (x :: xs).all fun b => PySem.W.alike (e a) (e b)) && ((x :: xs).all fun a => (e a).canLay0 && decide ((e a).depth ≤ 50) && !(e a).hasDict && !(match e a with | .none => true | _ => false)))
    (some (xs.foldl (fun a y => if PySem.W.dataLt (e y) (e a) = true then y else a) x)) none
theorem minAt_fold {α : Type} (e : α → PyData) : ∀ (xs : List α) (x : α), e (xs.foldl (fun a y => if PySem.W.dataLt (e y) (e a) = true then y else a) x) = PySem.W.minD (e x) (xs.map e)
  | [], _ => rfl
  | y :: xs, x => by
    rw [List.foldl_cons, minAt_fold e xs]
    show _ = PySem.W.minD (if PySem.W.dataLt (e y) (e x) then e y else e x) (xs.map e)
    congr 1
    split <;> rfl
theorem depth_all {n : Nat} : ∀ {ds : List PyData}, (∀ d ∈ ds, d.depth ≤ n) → PyData.depthAll ds ≤ n
  | [], _ => by simp only [PyData.depthAll]; omega
  | d :: ds, h => by
    simp only [PyData.depthAll]
    have := h d List.mem_cons_self
    have := depth_all fun y hy => h y (List.mem_cons_of_mem _ hy)
    omega
theorem canLay_all : ∀ {ds : List PyData}, (∀ d ∈ ds, d.canLay0 = true) → PyData.canLayAll0 ds = true
  | [], _ => by simp only [PyData.canLayAll0]
  | d :: ds, h => by
    simp only [PyData.canLayAll0, Bool.and_eq_true]
    exact ⟨h d List.mem_cons_self, canLay_all fun y hy => h y (List.mem_cons_of_mem _ hy)⟩
theorem hasDict_all : ∀ {ds : List PyData}, (∀ d ∈ ds, d.hasDict = false) → PyData.hasDictAll ds = false
  | [], _ => by simp only [PyData.hasDictAll]
  | d :: ds, h => by
    simp only [PyData.hasDictAll, Bool.or_eq_false_iff]
    exact ⟨h d List.mem_cons_self, hasDict_all fun y hy => h y (List.mem_cons_of_mem _ hy)⟩
section
variable {ms : List Addr} {F0 H0 G H : Hp} {cs : List (Addr × HO)} {a : Addr} {vs : List V} {K : PySem.W.Frag} {Q : VK}
theorem q_minT {α : Type} {e : α → PyData} {l : List α} {y : α} (sG : Same G H) (h1 : H a = some (.lst vs)) (f : FrL F0 G vs (l.map e)) (h : minAt e l = some y) (q : ∀ v, Fr F0 G v (e y) → Q v H) : zMinT K [.ref a] H Q := by
  cases l with
  | nil => cases h
  | cons x xs =>
    unfold minAt at h
    obtain ⟨h2, h3⟩ := grd h
    rw [Bool.and_eq_true, List.all_eq_true, List.all_eq_true] at h2
    obtain ⟨al, sm⟩ := h2
    have sm' : ∀ d ∈ (x :: xs).map e, d.canLay0 = true ∧ d.depth ≤ 50 ∧ d.hasDict = false ∧ d ≠ .none := fun d hd => by
      obtain ⟨b, hb, rfl⟩ := List.mem_map.mp hd
      have := sm b hb
      simp only [Bool.and_eq_true, decide_eq_true_iff, Bool.not_eq_true'] at this
      refine ⟨this.1.1.1, this.1.1.2, this.1.2, fun z => ?_⟩
      have w := this.2
      rw [z] at w
      exact absurd w (by simp)
    have em := minAt_fold e xs x
    cases som h3
    refine ⟨a, vs, e x, xs.map e, rfl, SqL.of h1, (f.same sG).dp (hasDict_all fun d hd => (sm' d hd).2.2.1), ⟨fun p hp r hr => ?_, fun p hp => (sm' p hp).2.2.2⟩, canLay_all fun d hd => (sm' d hd).1, Nat.le_trans (depth_all fun d hd => (sm' d hd).2.1) (by decide), fun i v hv hi => ?_⟩
    · obtain ⟨b, hb, rfl⟩ := List.mem_map.mp (show p ∈ (x :: xs).map e from hp)
      obtain ⟨c, hc, rfl⟩ := List.mem_map.mp (show r ∈ (x :: xs).map e from hr)
      have := al b hb
      rw [List.all_eq_true] at this
      exact this c hc
    · refine q v ?_
      obtain ⟨d, hd, fd⟩ := f.get' hv
      have : (x :: xs).map e = e x :: xs.map e := rfl
      rw [this, hi] at hd
      cases hd
      rw [em]
      exact fd
/-- a tuple of what is owned -/
theorem q_tupC {xs : List V} (S : Sep ms H0 G H cs) (z : xs.length ≤ LIM) (q : ∀ p G' H', Sep ms H0 G' H' cs → Same G G' → H' p = some (.tup xs) → Q (.ref p) H') : zTup xs H Q :=
  ⟨lim_le z, fun p hp => q p _ _ (S.sh hp) (sNew (S.gfree hp)) upd_same⟩
def remF (l : List Int) (x : Int) : Option (List Int) := cond (decide (x ∈ l)) (some (l.erase x)) none
theorem kremove {X : Cx} (_h : X.K = K := by rfl) : MtR X "list.remove" rRemI := mt_remove
theorem erase_is : ∀ {l : List Int} {x : Int}, x ∈ l → ∃ j, l[j]? = some x ∧ (∀ m : Nat, m < j → l[m]? ≠ some x) ∧ l.eraseIdx j = l.erase x
  | [], _, h => nomatch h
  | y :: l, x, h => by
    by_cases c : y = x
    · subst c
      exact ⟨0, rfl, fun m hm => absurd hm (Nat.not_lt_zero _), by simp⟩
    · have hx : x ∈ l := by
        rcases List.mem_cons.mp h with e | e
        · exact absurd e.symm c
        · exact e
      obtain ⟨j, h1, h2, h3⟩ := erase_is hx
      refine ⟨j + 1, by simpa using h1, fun m hm => ?_, ?_⟩
      · cases m with
        | zero => intro z; exact c (Option.some.inj z)
        | succ m => simpa using h2 m (by omega)
      · rw [List.eraseIdx_cons_succ, h3, List.erase_cons_tail (by simpa using c)]
theorem q_remI {l y : List Int} {x : Int} (S : Sep ms H0 G H cs) (i : Nat) (h : cs[i]? = some (a, .lst vs)) (f : FrL F0 G vs (l.map eI)) (hy : remF l x = some y) (q : ∀ us H', Sep ms H0 G H' (cs.set i (a, .lst us)) → FrL F0 G us (y.map eI) → Q .non H') : rRemI (.ref a) [.int x] H Q := by
  unfold remF at hy
  obtain ⟨h1, h2⟩ := grd hy
  cases som h2
  obtain ⟨j, k1, k2, k3⟩ := erase_is (of_decide_eq_true h1)
  have e := frl_ints f
  subst e
  refine ⟨a, l, x, j, rfl, rfl, S.get i h, k1, k2, ?_⟩
  rw [k3]
  exact q _ _ (S.put i h lst_tup) (ints_frl _)
theorem rd_glstE {n : Nat} {s : TGs} {p : Addr} {xs ys : List V} {σ : L2.St} {R : L2.St → Hp → Prop} (h : H p = some (.lst xs)) (e : xs = ys) (z : ys.length = n) (q : s ys σ H R) : gLst K n s (.ref p) σ H R := by
  subst e
  exact rd_glst h z q
end
end LQ

/-! What the functions of the programs give: rules for their parts. -/
namespace LQ
open PySem L2 LX
def Ev {α : Type} (o : Option α) (P : α → Prop) : Prop := ∃ x, o = some x ∧ P x
section
variable {α β S R : Type}
theorem ev_s {P : α → Prop} {x : α} (h : P x) : Ev (some x) P := ⟨x, rfl, h⟩
theorem ev_b {o : Option α} {f : α → Option β} {P : α → Prop} {Q : β → Prop} (h : Ev o P) (k : ∀ x, P x → Ev (f x) Q) : Ev (o.bind f) Q := by
  obtain ⟨x, rfl, h⟩ := h
  exact k x h
theorem ev_be {o : Option α} {f : α → Option β} {x : α} {Q : β → Prop} (h : o = some x) (k : Ev (f x) Q) : Ev (o.bind f) Q := by
  rw [h]
  exact k
theorem ev_c {c : Bool} {a b : Option α} {P : α → Prop} (h1 : c = true → Ev a P) (h2 : c = false → Ev b P) : Ev (cond c a b) P := by
  cases c with
  | true => exact h1 rfl
  | false => exact h2 rfl
theorem be {o : Option α} {f : α → Option β} {x : α} {r : Option β} (h : o = some x) (k : f x = r) : o.bind f = r := by
  rw [h]
  exact k
theorem be_ev {o : Option α} {f : α → Option β} {P : α → Prop} {r : Option β} (h : Ev o P) (k : ∀ x, P x → f x = r) : o.bind f = r := by
  obtain ⟨x, rfl, h⟩ := h
  exact k x h
theorem Ev.imp {o : Option α} {P Q : α → Prop} (h : Ev o P) (k : ∀ x, P x → Q x) : Ev o Q := by
  obtain ⟨x, e, h⟩ := h
  exact ⟨x, e, k x h⟩
theorem ev_loop {f : α → S → Option S} {P : S → Prop} : ∀ {l : List α} {s : S} (I : Nat → S → Prop), I 0 s → (∀ i x s, l[i]? = some x → I i s → Ev (f x s) (I (i + 1))) → (∀ s, I l.length s → P s) → Ev (loopF f l s) P
  | [], s, I, h0, _, k => ⟨s, rfl, k s h0⟩
  | x :: xs, s, I, h0, st, k => by
    refine ev_b (st 0 x s rfl h0) fun s1 h1 => ?_
    exact ev_loop (l := xs) (s := s1) (fun i s => I (i + 1) s) h1 (fun i y s2 e h2 => st (i + 1) y s2 e h2) (fun s2 h2 => k s2 h2)
theorem loop_fold {f : α → S → Option S} {g : S → α → S} : ∀ {l : List α} {s : S} (I : Nat → S → Prop), I 0 s → (∀ i x s, l[i]? = some x → I i s → f x s = some (g s x) ∧ I (i + 1) (g s x)) → loopF f l s = some (l.foldl g s)
  | [], s, I, _, _ => rfl
  | x :: xs, s, I, h0, st => by
    obtain ⟨h1, h2⟩ := st 0 x s rfl h0
    show (f x s).bind _ = _
    rw [h1]
    exact loop_fold (l := xs) (fun i s => I (i + 1) s) h2 fun i y s2 e h => st (i + 1) y s2 e h
/-- a loop that never gives back from within -/
theorem loop_all {f : α → S → Option (Ctl R S)} {P : Ctl R S → Prop} : ∀ {l : List α} {s : S} (I : Nat → S → Prop), I 0 s → (∀ i x s, l[i]? = some x → I i s → Ev (f x s) fun c => ∃ s', c = .nx s' ∧ I (i + 1) s') → (∀ s, I l.length s → P (.nx s)) → Ev (loopC f l s) P
  | [], s, I, h0, _, k => ⟨_, rfl, k s h0⟩
  | x :: xs, s, I, h0, st, k => by
    obtain ⟨c, e, s1, rfl, h1⟩ := st 0 x s rfl h0
    show Ev ((f x s).bind _) P
    rw [e]
    exact loop_all (l := xs) (s := s1) (fun i s => I (i + 1) s) h1 (fun i y s2 e h2 => st (i + 1) y s2 e h2) (fun s2 h2 => k s2 h2)
theorem compF_map {f : α → Option (Option β)} {g : α → β} : ∀ {l : List α}, (∀ x ∈ l, f x = some (some (g x))) → compF f l = some (l.map g)
  | [], _ => rfl
  | x :: xs, h => by
    show (f x).bind _ = _
    rw [h x List.mem_cons_self]
    show (compF f xs).bind _ = _
    rw [compF_map fun y hy => h y (List.mem_cons_of_mem _ hy)]
    rfl
theorem compF_filt {f : α → Option (Option β)} {q : α → Bool} {g : α → β} : ∀ {l : List α}, (∀ x ∈ l, f x = some (if q x = true then some (g x) else none)) → compF f l = some ((l.filter q).map g)
  | [], _ => rfl
  | x :: xs, h => by
    show (f x).bind _ = _
    rw [h x List.mem_cons_self]
    show (compF f xs).bind _ = _
    rw [compF_filt fun y hy => h y (List.mem_cons_of_mem _ hy)]
    cases c : q x with
    | true => rw [List.filter_cons_of_pos c]; rfl
    | false => rw [List.filter_cons_of_neg (by simp [c])]; rfl
theorem compL_map {f : α → Option (Option β)} {g : α → β} {l : List α} (z : l.length ≤ LIM) (h : ∀ x ∈ l, f x = some (some (g x))) : compL f l = some (l.map g) := by
  unfold compL
  rw [decide_eq_true z]
  exact compF_map h
theorem compL_filt {f : α → Option (Option β)} {q : α → Bool} {g : α → β} {l : List α} (z : l.length ≤ LIM) (h : ∀ x ∈ l, f x = some (if q x = true then some (g x) else none)) : compL f l = some ((l.filter q).map g) := by
  unfold compL
  rw [decide_eq_true z]
  exact compF_filt h
theorem compT_filt {f : α → Option (Option Str)} {q : α → Bool} {g : α → Str} {l : List α} (z : l.length ≤ 4000) (h : ∀ x ∈ l, f x = some (if q x = true then some (g x) else none)) : compT f l = some ((l.filter q).map g) := by
  unfold compT
  rw [decide_eq_true z]
  exact compF_filt h
/-! ### numbers -/
theorem modF_ok {a b : Int} (h : 0 < b) : modF a b = some (a % b) := by unfold modF; rw [decide_eq_true h]; rfl
theorem divF_ok {a b : Int} (h : 0 < b) (h2 : b.natAbs < 2 ^ 1000) : divF a b = some (a / b) := by unfold divF; rw [decide_eq_true h, decide_eq_true h2]; rfl
theorem powF_ok {a b : Int} (h : 0 ≤ b) (h2 : b ≤ 1000) (h3 : a.natAbs < 2 ^ 1000) : powF a b = some (a ^ b.toNat) := by unfold powF; rw [decide_eq_true h, decide_eq_true h2, decide_eq_true h3]; rfl
theorem mulF_ok {a b : Int} (h : a.natAbs < 2 ^ 100000) (h2 : b.natAbs < 2 ^ 100000) : mulF a b = some (a * b) := by unfold mulF; rw [decide_eq_true h, decide_eq_true h2]; rfl
theorem rngF_ok {a b : Int} (h : -(2 ^ 62) ≤ a) (h2 : a < 2 ^ 62) (h3 : -(2 ^ 62) ≤ b) (h4 : b < 2 ^ 62) : rngF a b = some (rgI a b) := by unfold rngF; rw [decide_eq_true h, decide_eq_true h2, decide_eq_true h3, decide_eq_true h4]; rfl
theorem lrgF_ok {a b : Int} (h : -(2 ^ 62) ≤ a) (h2 : a < 2 ^ 62) (h3 : -(2 ^ 62) ≤ b) (h4 : b < 2 ^ 62) (h5 : (b - a).toNat ≤ LIM) : lrgF a b = some (rgI a b) := by unfold lrgF; rw [decide_eq_true h, decide_eq_true h2, decide_eq_true h3, decide_eq_true h4, decide_eq_true h5]; rfl
theorem rgI_at {a b : Int} {i : Nat} {x : Int} (h : (rgI a b)[i]? = some x) : x = a + i ∧ a + i < b := by
  unfold rgI at h
  rw [List.getElem?_map] at h
  obtain ⟨j, hj, rfl⟩ := Option.map_eq_some_iff.mp h
  obtain ⟨h1, h2⟩ := List.getElem?_eq_some_iff.mp hj
  rw [List.getElem_range] at h2
  rw [List.length_range] at h1
  subst h2
  exact ⟨rfl, by omega⟩
theorem rgI_nat (n : Nat) : rgI 0 (n : Int) = (List.range n).map fun i : Nat => (i : Int) := by
  unfold rgI
  have : ((n : Int) - 0).toNat = n := by omega
  rw [this]
  exact List.map_congr_left fun i _ => by omega
theorem maxI_eq {a b : Int} : maxI a b = max a b := by unfold maxI; split <;> omega
theorem minI_eq {a b : Int} : minI a b = min a b := by unfold minI; split <;> omega
/-! ### lists -/
theorem ix_nat {l : List α} {i : Nat} {x : α} (h : l[i]? = some x) : ix l (i : Int) = some x := by
  have hl := (List.getElem?_eq_some_iff.mp h).1
  unfold ix atI
  rw [LX.ixN_nat hl]
  exact h
theorem ix_int {l : List α} {i : Int} {x : α} (h : 0 ≤ i) (h2 : l[i.toNat]? = some x) : ix l i = some x := by
  have := ix_nat h2
  rwa [Int.toNat_of_nonneg h] at this
theorem ev_ix {l : List α} {i : Int} {P : α → Prop} (h : 0 ≤ i) (h2 : i < lenI l) (k : ∀ x, l[i.toNat]? = some x → P x) : Ev (ix l i) P := by
  have hl : i.toNat < l.length := by unfold lenI at h2; omega
  exact ⟨l[i.toNat], ix_int h (List.getElem?_eq_getElem hl), k _ (List.getElem?_eq_getElem hl)⟩
theorem appF_ok {l : List α} {x : α} (h : l.length < LIM) : appF l x = some (l ++ [x]) := by unfold appF; rw [decide_eq_true h]; rfl
theorem catF_ok {l m : List α} (h : l.length + m.length ≤ LIM) : catF l m = some (l ++ m) := by unfold catF; rw [decide_eq_true h]; rfl
theorem repF_ok {l : List α} {k : Int} (h1 : -(2 ^ 63) ≤ k) (h2 : k < 2 ^ 63) (h : l.length * k.toNat ≤ LIM) : repF l k = some (List.replicate k.toNat l).flatten := by unfold repF; rw [decide_eq_true h1, decide_eq_true h2, decide_eq_true h]; rfl
theorem setF_nat {l : List α} {i : Nat} {x : α} (h : i < l.length) : setF l (i : Int) x = some (l.set i x) := by unfold setF; rw [LX.ixN_nat h]; rfl
theorem popAt_nat {l : List α} {i : Nat} {x : α} (h : l[i]? = some x) (h2 : l.length ≤ LIM) : popAtF l (i : Int) = some (x, l.eraseIdx i) := by
  have hl := (List.getElem?_eq_some_iff.mp h).1
  unfold popAtF
  rw [decide_eq_true (show -(2 ^ 63) ≤ (i : Int) by omega), decide_eq_true (show (i : Int) < 2 ^ 63 by unfold LIM at h2; omega)]
  have : seqIndex? (i : Int) l.length = some i := by
    unfold seqIndex?
    simp
    omega
  show (seqIndex? (i : Int) l.length).bind _ = _
  rw [this]
  show (l[i]?).bind _ = _
  rw [h]
  rfl
theorem enum_at {l : List α} {i : Nat} {p : Int × α} (h : (enumI l)[i]? = some p) : p.1 = i ∧ l[i]? = some p.2 := by
  unfold enumI at h
  rw [List.getElem?_zipWith] at h
  cases h1 : (List.range l.length)[i]? with
  | none => rw [h1] at h; cases h
  | some j =>
    cases h2 : l[i]? with
    | none => rw [h1, h2] at h; cases h
    | some x =>
      rw [h1, h2] at h
      cases h
      obtain ⟨h3, h4⟩ := List.getElem?_eq_some_iff.mp h1
      rw [List.getElem_range] at h4
      subst h4
      exact ⟨rfl, rfl⟩
theorem enum_len {l : List α} : (enumI l).length = l.length := by
  unfold enumI
  rw [List.length_zipWith, List.length_range, Nat.min_self]
theorem take_min (l : List α) (n : Nat) : l.take (min n l.length) = l.take n := by
  rw [← List.take_take, List.take_length]
theorem drop_min (l : List α) (n : Nat) : l.drop (min n l.length) = l.drop n := by
  by_cases h : n ≤ l.length
  · rw [Nat.min_eq_left h]
  · rw [Nat.min_eq_right (by omega), List.drop_length, List.drop_eq_nil_of_le (by omega)]
theorem cutL_to (l : List α) (n : Nat) : cutL l none (some (n : Int)) = l.take n := by
  unfold cutL
  rw [HT.sIx_none, HT.sIx_nat, List.drop_zero, Nat.sub_zero, take_min]
theorem cutL_from (l : List α) (n : Nat) : cutL l (some (n : Int)) none = l.drop n := by
  unfold cutL
  rw [HT.sIx_none, HT.sIx_nat, drop_min, List.take_of_length_le]
  rw [List.length_drop]
  omega
theorem cutL_mid (l : List α) (n m : Nat) : cutL l (some (n : Int)) (some (m : Int)) = (l.take m).drop n := by
  unfold cutL
  rw [HT.sIx_nat, HT.sIx_nat, ← List.drop_take, take_min]
  by_cases h : n ≤ l.length
  · rw [Nat.min_eq_left h]
  · rw [List.drop_eq_nil_of_le, List.drop_eq_nil_of_le] <;> rw [List.length_take] <;> omega
theorem cutL_len (l : List α) (a b : Option Int) : (cutL l a b).length ≤ l.length := by
  unfold cutL
  rw [List.length_take, List.length_drop]
  omega
/-! ### texts of one letter -/
def lt (c : Nat) : Str := ⟨#[c]⟩
theorem lt_len (c : Nat) : lenS (lt c) = some 1 := rfl
theorem lt_inj {c d : Nat} : lt c = lt d ↔ c = d := by
  constructor
  · intro h
    have : (#[c] : Array Nat) = #[d] := congrArg Str.cps h
    simpa using this
  · intro h; rw [h]
theorem lt_dec (c d : Nat) : decide (lt c = lt d) = decide (c = d) := by
  rw [decide_eq_decide]
  exact lt_inj
theorem lt_col {c : Nat} (h : 97 ≤ c ∧ c ≤ 122) : ((!ltS (lt c) (Str.ofString "a")) && (!ltS (Str.ofString "z") (lt c))) = true := by
  have h1 : ltS (lt c) (Str.ofString "a") = false := by
    show decide (([c] : List Nat) < [97]) = false
    rw [decide_eq_false_iff_not, List.cons_lt_cons_iff]
    rintro (h1 | ⟨_, h1⟩)
    · omega
    · exact absurd h1 (List.not_lt_nil _)
  have h2 : ltS (Str.ofString "z") (lt c) = false := by
    show decide (([122] : List Nat) < [c]) = false
    rw [decide_eq_false_iff_not, List.cons_lt_cons_iff]
    rintro (h1 | ⟨_, h1⟩)
    · omega
    · exact absurd h1 (List.not_lt_nil _)
  rw [h1, h2]
  rfl
/-! ### rows -/
abbrev eRow (e : Nat × Nat) : Int × Str := ((e.1 : Int), lt e.2)
abbrev enc (r : Row) : List (Int × Str) := r.map eRow
abbrev nI (cs : List Nat) : List Int := cs.map fun n : Nat => (n : Int)
theorem enc_len (r : Row) : (enc r).length = r.length := List.length_map ..
theorem mem_nI {n : Nat} {cs : List Nat} : (n : Int) ∈ nI cs ↔ n ∈ cs := by
  constructor
  · intro h
    obtain ⟨m, h1, h2⟩ := List.mem_map.mp h
    have : m = n := by omega
    exact this ▸ h1
  · exact List.mem_map_of_mem
theorem nI_dec {n : Nat} {cs : List Nat} : decide ((n : Int) ∈ nI cs) = decide (n ∈ cs) := by
  rw [decide_eq_decide]
  exact mem_nI
end
end LQ
/-! ### equal data -/
namespace LQ
open PySem L2 LX
structure EqE {α : Type} [DecidableEq α] (n : Nat) (e : α → PyData) (ok : α → Prop) : Prop where
  sd : ∀ x, ok x → Sd n (e x)
  eq : ∀ x y, ok x → ok y → PyData.eqv (e x) (e y) = decide (x = y)
section
variable {α β : Type} [DecidableEq α] [DecidableEq β]
theorem EqE.int : EqE 0 eI (fun _ => True) := ⟨fun _ _ => Sd.int, fun x y _ _ => by
  simp only [PyData.eqv]
  exact Bool.eq_iff_iff.mpr ⟨fun h => decide_eq_true (by simpa using h), fun h => by simpa using of_decide_eq_true h⟩⟩
theorem EqE.bool : EqE 0 eB (fun _ => True) := ⟨fun _ _ => ⟨by simp only [PyData.canLay0], by simp only [PyData.depth]; omega⟩, fun x y _ _ => by cases x <;> cases y <;> simp [PyData.eqv]⟩
theorem EqE.str : EqE 0 eS (fun z => PyData.strOk z = true) := ⟨fun z h => ⟨by simp only [PyData.canLay0]; exact h, by simp only [PyData.depth]; omega⟩, fun x y _ _ => by
  simp only [PyData.eqv]
  exact Bool.eq_iff_iff.mpr ⟨fun h => decide_eq_true (by simpa using h), fun h => by simpa using of_decide_eq_true h⟩⟩
theorem Sd.up {m n : Nat} {d : PyData} (h : Sd m d) (z : m ≤ n) : Sd n d := ⟨h.lay, Nat.le_trans h.dep z⟩
theorem sd_all {n : Nat} {e : α → PyData} {ok : α → Prop} (h : EqE n e ok) : ∀ {l : List α}, (∀ x ∈ l, ok x) → PyData.canLayAll0 (l.map e) = true ∧ PyData.depthAll (l.map e) ≤ n
  | [], _ => ⟨by simp only [List.map_nil, PyData.canLayAll0], by simp only [List.map_nil, PyData.depthAll]; omega⟩
  | x :: l, k => by
    have h1 := h.sd x (k x List.mem_cons_self)
    have h2 := sd_all h fun y hy => k y (List.mem_cons_of_mem _ hy)
    simp only [List.map_cons, PyData.canLayAll0, PyData.depthAll]
    exact ⟨by rw [h1.lay, h2.1]; rfl, by have := h1.dep; omega⟩
theorem eqv_all {n : Nat} {e : α → PyData} {ok : α → Prop} (h : EqE n e ok) : ∀ {l m : List α}, (∀ x ∈ l, ok x) → (∀ x ∈ m, ok x) → PyData.eqvAll (l.map e) (m.map e) = decide (l = m)
  | [], [], _, _ => by simp only [List.map_nil, PyData.eqvAll]; rfl
  | [], _ :: _, _, _ => by simp only [List.map_nil, List.map_cons, PyData.eqvAll]; rfl
  | _ :: _, [], _, _ => by simp only [List.map_nil, List.map_cons, PyData.eqvAll]; rfl
  | x :: l, y :: m, k, k2 => by
    simp only [List.map_cons, PyData.eqvAll]
    rw [h.eq x y (k x List.mem_cons_self) (k2 y List.mem_cons_self), eqv_all h (fun y hy => k y (List.mem_cons_of_mem _ hy)) (fun y hy => k2 y (List.mem_cons_of_mem _ hy))]
    exact Bool.eq_iff_iff.mpr ⟨fun h => decide_eq_true (by simpa using h), fun h => by simpa using of_decide_eq_true h⟩
theorem EqE.list {n : Nat} {e : α → PyData} {ok : α → Prop} (h : EqE n e ok) : EqE (n + 1) (eL e) (fun l => ∀ x ∈ l, ok x) := ⟨fun l k => ⟨by simp only [PyData.canLay0]; exact (sd_all h k).1, by simp only [PyData.depth]; have := (sd_all h k).2; omega⟩, fun l m k k2 => by
  simp only [PyData.eqv]
  exact eqv_all h k k2⟩
theorem EqE.tup {n : Nat} {e : α → PyData} {f : β → PyData} {ok : α → Prop} {ok2 : β → Prop} (h : EqE n e ok) (h2 : EqE n f ok2) : EqE (n + 1) (eT2 e f) (fun p => ok p.1 ∧ ok2 p.2) := ⟨fun p k => by
  have h1 := h.sd p.1 k.1
  have h3 := h2.sd p.2 k.2
  refine ⟨?_, ?_⟩
  · simp only [PyData.canLay0, PyData.canLayAll0]
    rw [h1.lay, h3.lay]
    rfl
  · simp only [PyData.depth, PyData.depthAll]
    have := h1.dep
    have := h3.dep
    omega, fun p q k k2 => by
  simp only [PyData.eqv, PyData.eqvAll]
  rw [h.eq _ _ k.1 k2.1, h2.eq _ _ k.2 k2.2]
  obtain ⟨a, b⟩ := p
  obtain ⟨c, d⟩ := q
  exact Bool.eq_iff_iff.mpr ⟨fun h => decide_eq_true (by simpa using h), fun h => by simpa using of_decide_eq_true h⟩⟩
theorem EqE.run {n : Nat} {e : α → PyData} {ok : α → Prop} (h : EqE n e ok) (z : n ≤ 64) {x y : α} (k : ok x) (k2 : ok y) : eqvF (e x) (e y) = some (decide (x = y)) := by
  have h1 := h.sd x k
  have h2 := h.sd y k2
  unfold eqvF
  rw [h1.shaped z, h2.shaped z, PyData.hasDict_of_canLay _ h1.lay, PyData.hasDict_of_canLay _ h2.lay, h.eq x y k k2]
  rfl
end
theorem strOk_lt {c : Nat} (h : c ≤ 122) : PyData.strOk (lt c) = true := by
  unfold PyData.strOk lt
  simp
  omega
abbrev eRows : List (Int × Str) → PyData := eL (eT2 eI eS)
theorem eqRow : EqE 2 eRows (fun l => ∀ x ∈ l, True ∧ PyData.strOk x.2 = true) := EqE.list (EqE.tup EqE.int EqE.str)
theorem ok_enc {r : Row} (h : ∀ e ∈ r, 97 ≤ e.2 ∧ e.2 ≤ 122) : ∀ x ∈ enc r, True ∧ PyData.strOk x.2 = true := fun x hx => by
  obtain ⟨e, he, rfl⟩ := List.mem_map.mp hx
  exact ⟨trivial, strOk_lt (h e he).2⟩
end LQ
namespace LQ
open PySem L2 LX
theorem EqE.oI : EqE 0 (eO eI) (fun _ => True) := ⟨fun x _ => by cases x; exact Sd.none; exact Sd.int, fun x y _ _ => by
  cases x <;> cases y
  · simp only [eO, PyData.eqv]; rfl
  · simp only [eO, PyData.eqv]; rfl
  · simp only [eO, PyData.eqv]; rfl
  · simp only [eO, PyData.eqv]
    exact Bool.eq_iff_iff.mpr ⟨fun h => decide_eq_true (by simpa using h), fun h => by simpa using of_decide_eq_true h⟩⟩
theorem zip_maps {α β γ : Type} (g : α → β) (h : α → γ) : ∀ l : List α, zipL (l.map g) (l.map h) = l.map fun x => (g x, h x)
  | [] => rfl
  | x :: l => by
    show (g x, h x) :: zipL (l.map g) (l.map h) = _
    rw [zip_maps g h l]
    rfl
theorem lt_maps : ∀ {l m : List Nat}, l.map lt = m.map lt → l = m
  | [], [], _ => rfl
  | [], _ :: _, h => nomatch h
  | _ :: _, [], h => nomatch h
  | x :: l, y :: m, h => by
    rw [List.map_cons, List.map_cons] at h
    injection h with h1 h2
    rw [lt_inj.mp h1, lt_maps h2]
end LQ

/-! Dicts, joined letters, different values, counts. -/
namespace LQ
open PySem L2 LX
section
variable {κ α : Type} [DecidableEq κ]
theorem dget_put (l : List (κ × α)) (k : κ) (x : α) (j : κ) : dget (dput l k x) j = if k = j then some x else dget l j := by
  unfold dput
  split
  · rename_i h
    obtain ⟨p, hp, e⟩ := List.any_eq_true.mp h
    have e := of_decide_eq_true e
    clear h
    induction l with
    | nil => cases hp
    | cons q l ih =>
      unfold dget at ih ⊢
      rw [List.map_cons]
      by_cases c : q.1 = k
      · rw [if_pos c]
        by_cases d : k = j
        · rw [if_pos d, List.find?_cons_of_pos (by rw [decide_eq_true_iff]; exact c.trans d)]
          rfl
        · rw [if_neg d, List.find?_cons_of_neg (by rw [decide_eq_true_iff]; exact fun z => d (c.symm.trans z)), List.find?_cons_of_neg (by rw [decide_eq_true_iff]; exact fun z => d (c.symm.trans z))]
          by_cases hl : p ∈ l
          · have := ih hl
            rw [if_neg d] at this
            exact this
          · have hz : ∀ u ∈ l, u.1 = k → False ∨ True := fun _ _ _ => Or.inr trivial
            clear hz
            have go : ∀ l : List (κ × α), (List.find? (fun p => decide (p.1 = j)) (l.map fun p => if p.1 = k then (p.1, x) else p)).map (·.2) = (l.find? fun p => decide (p.1 = j)).map (·.2) := by
              intro l
              induction l with
              | nil => rfl
              | cons u l ih2 =>
                rw [List.map_cons]
                by_cases c2 : u.1 = k
                · rw [if_pos c2, List.find?_cons_of_neg (by rw [decide_eq_true_iff]; exact fun z => d (c2.symm.trans z)), List.find?_cons_of_neg (by rw [decide_eq_true_iff]; exact fun z => d (c2.symm.trans z))]
                  exact ih2
                · rw [if_neg c2]
                  by_cases c3 : u.1 = j
                  · rw [List.find?_cons_of_pos (by rw [decide_eq_true_iff]; exact c3), List.find?_cons_of_pos (by rw [decide_eq_true_iff]; exact c3)]
                  · rw [List.find?_cons_of_neg (by rw [decide_eq_true_iff]; exact c3), List.find?_cons_of_neg (by rw [decide_eq_true_iff]; exact c3)]
                    exact ih2
            exact go l
      · rw [if_neg c]
        have hl : p ∈ l := by
          rcases List.mem_cons.mp hp with z | z
          · exact absurd (z ▸ e) c
          · exact z
        by_cases d : q.1 = j
        · rw [List.find?_cons_of_pos (by rw [decide_eq_true_iff]; exact d), List.find?_cons_of_pos (by rw [decide_eq_true_iff]; exact d), if_neg (fun z => c (d.trans z.symm))]
        · rw [List.find?_cons_of_neg (by rw [decide_eq_true_iff]; exact d), List.find?_cons_of_neg (by rw [decide_eq_true_iff]; exact d)]
          exact ih hl
  · rename_i h
    unfold dget
    rw [List.find?_append]
    by_cases d : k = j
    · rw [if_pos d]
      have : l.find? (fun p => decide (p.1 = j)) = none := by
        rw [List.find?_eq_none]
        intro u hu z
        exact h (List.any_eq_true.mpr ⟨u, hu, by rw [d]; exact z⟩)
      rw [this, List.find?_cons_of_pos (by rw [decide_eq_true_iff]; exact d)]
      rfl
    · rw [if_neg d, List.find?_cons_of_neg (by rw [decide_eq_true_iff]; exact d)]
      cases l.find? (fun p => decide (p.1 = j)) <;> rfl
theorem dget_merge_no {j : κ} : ∀ (m l : List (κ × α)), (∀ p ∈ m, p.1 ≠ j) → dget (dmerge l m) j = dget l j
  | [], l, _ => rfl
  | p :: m, l, h => by
    show dget (dmerge (dput l p.1 p.2) m) j = _
    rw [dget_merge_no m _ fun q hq => h q (List.mem_cons_of_mem _ hq), dget_put, if_neg (h p List.mem_cons_self)]
theorem dget_merge {p : κ × α} : ∀ (m l : List (κ × α)), (m.map (·.1)).Nodup → p ∈ m → dget (dmerge l m) p.1 = some p.2
  | [], _, _, h => nomatch h
  | q :: m, l, nd, h => by
    have nd' := List.nodup_cons.mp (show (q.1 :: m.map (·.1)).Nodup from nd)
    show dget (dmerge (dput l q.1 q.2) m) p.1 = _
    rcases List.mem_cons.mp h with z | z
    · rw [z, dget_merge_no m _ fun u hu e => nd'.1 (by rw [← e]; exact List.mem_map_of_mem (f := (·.1)) hu), dget_put, if_pos rfl]
    · exact dget_merge m _ nd'.2 z
end
theorem enc_nodup {r : Row} (V : Vr r) : ((enc r).map (·.1)).Nodup := by
  have : (enc r).map (·.1) = nI (r.map (·.1)) := by
    show List.map _ (List.map _ r) = List.map _ (List.map _ r)
    rw [List.map_map, List.map_map]
    rfl
  rw [this, nI, List.nodup_iff_pairwise_ne, List.pairwise_map]
  exact V.nodup.imp fun h z => h (by omega)
theorem dget_row {r : Row} (V : Vr r) {p : Nat} (h : p < r.length) : dget (dmerge [] (enc r)) (p : Int) = some (lt (colOf r p)) :=
  dget_merge (p := ((p : Int), lt (colOf r p))) _ _ (enc_nodup V) (List.mem_map_of_mem (f := eRow) (colOf_mem (V.has h)))
theorem join_lt {ys : List Str} (h : ∀ y ∈ ys, ∃ c, y = lt c) (z : ys.length ≤ 1000) : Ev (joinF (Str.ofString "") ys) fun s => ∃ ns : List Nat, ys = ns.map lt ∧ s = txt ns ∧ s.length = ys.length := by
  have ex : ∃ ns : List Nat, ys = ns.map lt := by
    clear z
    induction ys with
    | nil => exact ⟨[], rfl⟩
    | cons y ys ih =>
      obtain ⟨c, hc⟩ := h y List.mem_cons_self
      obtain ⟨ns, hn⟩ := ih fun u hu => h u (List.mem_cons_of_mem _ hu)
      exact ⟨c :: ns, by rw [hn, hc]; rfl⟩
  obtain ⟨ns, rfl⟩ := ex
  rw [List.length_map] at z
  have s1 : ∀ ns : List Nat, ((ns.map lt).map (·.length)).sum = ns.length := by
    intro ns
    induction ns with
    | nil => rfl
    | cons c ns ih =>
      show (lt c).length + ((ns.map lt).map (·.length)).sum = _
      rw [ih]
      show 1 + _ = _
      rw [List.length_cons]
      omega
  have e0 : (Str.ofString "").length = 0 := rfl
  unfold joinF
  rw [decide_eq_true (by rw [s1, e0]; omega)]
  exact ⟨_, rfl, ns, rfl, join_ones ns, by
    rw [show Txt.join (Str.ofString "") (ns.map lt) = txt ns from join_ones ns, List.length_map]
    show ns.toArray.size = _
    rw [List.size_toArray]⟩
theorem txt_len (ns : List Nat) : (txt ns).length = ns.length := by
  show ns.toArray.size = _
  rw [List.size_toArray]
section
variable {α β : Type} [DecidableEq α] [DecidableEq β]
/-- of two or more different values, two differ -/
theorem dd_two {l : List α} (h : 2 ≤ (dd l).length) : ∃ x ∈ l, ∃ y ∈ l, x ≠ y := by
  have nd := dd_nodup l
  match e : dd l, h with
  | x :: y :: r, _ =>
    rw [e] at nd
    refine ⟨x, mem_dd.mp (by rw [e]; exact List.mem_cons_self), y, mem_dd.mp (by rw [e]; exact List.mem_cons_of_mem _ List.mem_cons_self), fun z => ?_⟩
    exact (List.nodup_cons.mp nd).1 (by rw [z]; exact List.mem_cons_self)
theorem dd_ne {l : List α} (h : l ≠ []) : 1 ≤ (dd l).length := by
  cases l with
  | nil => exact absurd rfl h
  | cons x l =>
    have : x ∈ dd (x :: l) := mem_dd.mpr List.mem_cons_self
    cases e : dd (x :: l) with
    | nil => rw [e] at this; cases this
    | cons _ _ => exact Nat.succ_le_succ (Nat.zero_le _)
end
theorem sortU_len (ks : List Str) : (sortU ks).length = (dd ks).length := by
  unfold sortU
  exact (List.mergeSort_perm _ _).length_eq
theorem mem_sortU {ks : List Str} {x : Str} : x ∈ sortU ks ↔ x ∈ ks := by
  unfold sortU
  rw [(List.mergeSort_perm _ _).mem_iff, mem_dd]
theorem mem_sortUI {ks : List Int} {x : Int} : x ∈ sortUI ks ↔ x ∈ ks := by
  unfold sortUI
  rw [(List.mergeSort_perm _ _).mem_iff, mem_dd]
theorem count_nI (l : List Nat) (p : Nat) : (nI l).count (p : Int) = l.count p := by
  induction l with
  | nil => rfl
  | cons x l ih =>
    show (((x : Int) :: nI l)).count (p : Int) = _
    rw [List.count_cons, List.count_cons, ih]
    congr 1
    by_cases h : x = p
    · rw [h]; simp
    · rw [show ((x : Int) == (p : Int)) = false from beq_eq_false_iff_ne.mpr fun z => h (by omega), show (x == p) = false from beq_eq_false_iff_ne.mpr h]
theorem ex_nI {l : List Int} (h : ∀ x ∈ l, ∃ n : Nat, x = (n : Int)) : ∃ ns : List Nat, l = nI ns := by
  induction l with
  | nil => exact ⟨[], rfl⟩
  | cons x l ih =>
    obtain ⟨n, hn⟩ := h x List.mem_cons_self
    obtain ⟨ns, e⟩ := ih fun y hy => h y (List.mem_cons_of_mem _ hy)
    exact ⟨n :: ns, by rw [e, hn]; rfl⟩
end LQ
namespace LQ
open PySem L2 LX
theorem join_txt {cs : List Nat} (z : cs.length ≤ 1000) : joinF (Str.ofString "") (cs.map lt) = some (txt cs) := by
  obtain ⟨s, e, ns, h1, h2, _⟩ := join_lt (ys := cs.map lt) (fun y hy => by
    obtain ⟨c, _, rfl⟩ := List.mem_map.mp hy
    exact ⟨c, rfl⟩) (by rw [List.length_map]; exact z)
  rw [e, h2, lt_maps h1]
theorem cat_txt {cs : List Nat} {x : Nat} (z : cs.length ≤ 1000) : catS (txt cs) (lt x) = some (txt (cs ++ [x])) := by
  have l1 : (txt cs).length = cs.length := LX.txt_len cs
  have l2 : (lt x).length = 1 := rfl
  unfold catS
  rw [decide_eq_true (by unfold LIM; omega)]
  show some _ = some _
  congr 1
  apply str_ext
  show (cs.toArray ++ #[x]).toList = (cs ++ [x]).toArray.toList
  simp
/-- the least of a list stands first when sorted -/
theorem sort_head {l : List Int} {m : Int} (h : minL l = some m) : ix (sortI l) (0 : Int) = some m := by
  have pm : (sortI l).Perm l := List.mergeSort_perm _ _
  have pw : (sortI l).Pairwise (fun a b : Int => decide (a ≤ b) = true) := List.pairwise_mergeSort (fun a b c x y => by rw [decide_eq_true_iff] at *; omega) (fun a b => by simp; omega) l
  cases e : sortI l with
  | nil =>
    rw [e] at pm
    rw [pm.symm.eq_nil] at h
    cases h
  | cons x xs =>
    rw [e] at pm pw
    have hx : x ∈ l := pm.mem_iff.mp List.mem_cons_self
    have := minL_is h hx fun y hy => by
      rcases List.mem_cons.mp (pm.mem_iff.mpr hy) with z | z
      · omega
      · exact of_decide_eq_true ((List.pairwise_cons.mp pw).1 y z)
    rw [← this]
    exact ix_int (by decide) rfl
end LQ
-- LEVEL _law_equal = 4

namespace K77
open PySem L2 LX LQ
local macro_rules | `(tactic| walk_at "rd") => `(tactic| repeat (first
  | with_reducible refine rd_var rfl ?_ | with_reducible refine rd_c ?_ | with_reducible refine rd_op ?_ | with_reducible refine rd_un ?_ | with_reducible refine rd_I0 ?_ | with_reducible refine rd_U ?_
  | with_reducible refine rd_test ?_ | with_reducible refine rd_tB ?_ | with_reducible refine rd_bl ?_ | with_reducible refine rd_chain ?_
  | with_reducible refine rd_and ?_ | with_reducible refine rd_or ?_ | with_reducible refine rd_not ?_ | with_reducible refine rd_andV ?_ | with_reducible refine rd_orV ?_ | with_reducible refine rd_notV ?_
  | with_reducible refine rd_next ?_ | with_reducible refine rd_seq ?_ | with_reducible refine rd_drop ?_ | with_reducible refine rd_ret ?_ | with_reducible refine rd_ifS ?_ | with_reducible refine rd_asg ?_ | with_reducible refine rd_name ?_
  | with_reducible refine rd_par ?_ | with_reducible refine rd_two ?_ | with_reducible refine rd_2i ?_ | with_reducible refine rd_nil ?_ | with_reducible refine rd_cons ?_ | with_reducible refine rd_tup ?_ | with_reducible refine rd_lst ?_ | with_reducible refine rd_cb ?_ | with_reducible refine rd_call ?_
  | with_reducible refine rd_ixL (by assumption) rfl ?_ | with_reducible refine rd_ixT (by assumption) rfl ?_ | with_reducible refine rd_ixL upd_same rfl ?_ | with_reducible refine rd_sub ?_ | with_reducible refine rd_sl ?_ | with_reducible refine rd_nopart ?_ | with_reducible refine rd_part ?_ | with_reducible refine rd_int ?_
  | with_reducible refine rd_len (by assumption) ?_ | with_reducible refine rd_bm ?_ | with_reducible refine rd_bm0 ?_ | with_reducible refine rd_gcons ?_ | with_reducible refine rd_gnil ?_
  | ((with_reducible refine rd_I ?ci ?_); (case ci => first | assumption | (show (0 : Int) < _; decide) | exact Or.inl ⟨by decide, by decide⟩ | exact Or.inr ⟨by decide, by decide⟩ | exact ⟨by decide, by decide, (by decide : Int.natAbs 10 < 2 ^ 1000)⟩))
  | with_reducible refine rd_setL (by assumption) rfl ?_ | with_reducible refine rd_setL upd_same rfl ?_ | with_reducible refine rd_len upd_same ?_
  | with_reducible refine rd_2ty ?_ | with_reducible refine rd_NT ?_ | with_reducible refine rd_2s ?_ | with_reducible refine rd_lenS ?_ | with_reducible refine rd_lenT (by assumption) ?_ | ((with_reducible refine rd_typ ?ct ?_); (case ct => rfl))
  | ((with_reducible refine rd_eq ?cs ?_); (case cs => rfl)) | ((with_reducible refine rd_ne ?cs ?_); (case cs => rfl))
  | with_reducible refine rd_qtru ?_ | with_reducible refine rd_lstRg ?_ | with_reducible refine rd_rg1 ?_ | with_reducible refine rd_tyes ?_ | with_reducible refine rd_tyL (by assumption) ?_ | with_reducible refine rd_tyT (by assumption) ?_
  | with_reducible refine iteT ?_ | with_reducible refine iteF ?_ | with_reducible refine rd_nt ?_ | with_reducible refine rd_nf ?_
  | (dsimp only)))

variable {P : Program} {w : World} {K : PySem.W.Frag} {mg : Str → Option Value} {base : Heap} {a : Ad}
/-- two values that are the same data, less deep than n -/
def SD : Nat → Hp → V → V → Prop
  | 0, _, _, _ => False
  | n + 1, H, v, e => (v = .non ∧ e = .non) ∨ (∃ i : Int, v = .int i ∧ e = .int i) ∨ (∃ x : Str, v = .str x ∧ e = .str x) ∨
    (∃ (c d : Addr) (xs ys : List V), v = .ref c ∧ e = .ref d ∧ H c = some (.lst xs) ∧ H d = some (.lst ys) ∧ xs.length = ys.length ∧ xs.length ≤ 1000 ∧ ∀ (i : Nat) (x y : V), xs[i]? = some x → ys[i]? = some y → SD n H x y) ∨
    (∃ (c d : Addr) (xs ys : List V), v = .ref c ∧ e = .ref d ∧ H c = some (.tup xs) ∧ H d = some (.tup ys) ∧ xs.length = ys.length ∧ xs.length ≤ 1000 ∧ ∀ (i : Nat) (x y : V), xs[i]? = some x → ys[i]? = some y → SD n H x y)
theorem SD.mono {H H' : Hp} (s : Same H H') : ∀ (n : Nat) (v e : V), SD n H v e → SD n H' v e
  | 0, _, _, h => h.elim
  | n + 1, v, e, h => by
    rcases h with h | h | h | ⟨c, d, xs, ys, rfl, rfl, h1, h2, h3, h4, h5⟩ | ⟨c, d, xs, ys, rfl, rfl, h1, h2, h3, h4, h5⟩
    · exact Or.inl h
    · exact Or.inr (Or.inl h)
    · exact Or.inr (Or.inr (Or.inl h))
    · exact Or.inr (Or.inr (Or.inr (Or.inl ⟨c, d, xs, ys, rfl, rfl, s _ _ h1, s _ _ h2, h3, h4, fun i x y hx hy => SD.mono s n x y (h5 i x y hx hy)⟩)))
    · exact Or.inr (Or.inr (Or.inr (Or.inr ⟨c, d, xs, ys, rfl, rfl, s _ _ h1, s _ _ h2, h3, h4, fun i x y hx hy => SD.mono s n x y (h5 i x y hx hy)⟩)))
theorem SD.non {n : Nat} {H : Hp} : SD (n + 1) H .non .non := Or.inl ⟨rfl, rfl⟩
theorem SD.int {n : Nat} {H : Hp} {i : Int} : SD (n + 1) H (.int i) (.int i) := Or.inr (Or.inl ⟨i, rfl, rfl⟩)
theorem SD.str {n : Nat} {H : Hp} {x : Str} : SD (n + 1) H (.str x) (.str x) := Or.inr (Or.inr (Or.inl ⟨x, rfl, rfl⟩))
theorem SD.opt {n : Nat} {H : Hp} {o : Option Nat} : SD (n + 1) H (oV o) (oV o) := by
  cases o
  · exact SD.non
  · exact SD.str
theorem SD.lst {n : Nat} {H : Hp} {c d : Addr} {xs ys : List V} (h1 : H c = some (.lst xs)) (h2 : H d = some (.lst ys)) (h3 : xs.length = ys.length) (h4 : xs.length ≤ 1000) (h5 : ∀ (i : Nat) (x y : V), xs[i]? = some x → ys[i]? = some y → SD n H x y) : SD (n + 1) H (.ref c) (.ref d) :=
  Or.inr (Or.inr (Or.inr (Or.inl ⟨c, d, xs, ys, rfl, rfl, h1, h2, h3, h4, h5⟩)))
theorem SD.tup {n : Nat} {H : Hp} {c d : Addr} {xs ys : List V} (h1 : H c = some (.tup xs)) (h2 : H d = some (.tup ys)) (h3 : xs.length = ys.length) (h4 : xs.length ≤ 1000) (h5 : ∀ (i : Nat) (x y : V), xs[i]? = some x → ys[i]? = some y → SD n H x y) : SD (n + 1) H (.ref c) (.ref d) :=
  Or.inr (Or.inr (Or.inr (Or.inr ⟨c, d, xs, ys, rfl, rfl, h1, h2, h3, h4, h5⟩)))
def spSame (n : Nat) : Sp := fun vs H Q _ => ∃ (v e : V), vs = [v, e] ∧ SD n H v e ∧ ∀ H', Same H H' → Q (.bl true) H'
theorem lc_pairs {J : It} {D : Addr} {xs ys : List V} {n : Nat} {g : TG} {te : TE} {vs : List Nat} {σ : L2.St} {H1 : Hp} {Qd : Hp → Prop} (hD : H1 D = none) (hz : n ≤ 1000)
    (hgo : ∀ i H, Same H1 H → i < n → J.go i H) (hstop : ∀ H, Same H1 H → J.stop n H)
    (hyld : ∀ i H x H', Same H1 H → J.yld i H x H' → ∃ T u v, x = .ref T ∧ H T = none ∧ H' = upd H T (.tup [u, v]) ∧ xs[i]? = some u ∧ ys[i]? = some v)
    (hs : ∀ (i : Nat) (u v : V), xs[i]? = some u → ys[i]? = some v → ∀ T H, Same H1 H → H T = some (.tup [u, v]) → ∀ (R : V → Hp → Prop), (∀ H', Same H H' → R (.bl true) H') →
      g (.ref T) (wipe σ vs) H fun σ2 H2 => wipe σ2 vs = wipe σ vs ∧ te σ2 H2 R)
    (hd : ∀ H', Same H1 H' → H' D = some (.lst ((List.replicate n true).map V.bl)) → Qd H') :
    ∃ W : Nat → Nat → Hp → Prop, (∃ m, W 0 m (upd H1 D (.lst []))) ∧ ∀ i m H, W i m H →
      (J.stop i H ∧ Qd H) ∨ (J.go i H ∧ ∃ Nx : Hp → Prop, (∀ H', Nx H' → ∃ m', m' < m ∧ W (i + 1) m' H') ∧ ∀ x H', J.yld i H x H' → g x (wipe σ vs) H' fun σ2 H2 => wipe σ2 vs = wipe σ vs ∧ tYes σ2 H2 fun b H3 =>
        if b = true then te σ2 H3 fun y H4 => ∃ acc, H4 D = some (.lst acc) ∧ acc.length < sizeLine ∧ Nx (upd H4 D (.lst (acc ++ [y]))) else Nx H3) := by
  refine ⟨fun i m H => m = n - i ∧ i ≤ n ∧ Same H1 H ∧ H D = some (.lst ((List.replicate i true).map V.bl)), ⟨n, by simp, Nat.zero_le _, sNew hD, upd_same⟩, ?_⟩
  rintro i m H ⟨rfl, hi, s, e⟩
  by_cases hlt : i < n
  · refine Or.inr ⟨hgo i H s hlt, fun H' => Same H1 H' ∧ H' D = some (.lst ((List.replicate (i + 1) true).map V.bl)), fun H' h => ⟨n - (i + 1), by omega, rfl, hlt, h⟩, fun x H' hy => ?_⟩
    obtain ⟨T, u, v, rfl, hT, rfl, hu, hv⟩ := hyld i H x H' s hy
    have sn := sNew (o := .tup [u, v]) hT
    refine hs i u v hu hv T _ (s.trans sn) upd_same _ fun H'' s2 => ⟨_, s2 _ _ (sn _ _ e), small1000 ?_, sUpd (s.trans (sn.trans s2)) hD, ?_⟩
    · rw [List.length_map, List.length_replicate]
      omega
    · rw [upd_same, List.replicate_succ', List.map_append]
      rfl
  · have e2 : i = n := by omega
    subst e2
    exact Or.inl ⟨hstop H s, hd H s e⟩
theorem kit2 (t x y : String) (b c r : Bool) (h1 : kitB t x = some b) (h2 : kitB t y = some c) (hr : (b || c) = r) : PySem.W.kitAny K (.type t) [.type x, .type y] = some r := by
  subst hr
  cases b with
  | true => exact kitAny_cons (kit_ty h1) (fun z => by cases z) fun _ => rfl
  | false =>
    refine kitAny_cons (kit_ty h1) (fun _ => ?_) fun z => by cases z
    cases c with
    | true => exact kitAny_cons (kit_ty h2) (fun z => by cases z) fun _ => rfl
    | false => exact kitAny_cons (kit_ty h2) (fun _ => kitAny_nil) fun z => by cases z
theorem rd_is2 {H : Hp} {Q : VK} {v : V} {tp : Addr} {t x y : String} {r : Bool} (g : H tp = some (.tup [.ty x, .ty y])) (ty : TyX K H v (.type t)) (h : PySem.W.kitAny K (.type t) [.type x, .type y] = some r) (q : Q (.bl r) H) : rIsiT K [v, .ref tp] H Q :=
  ⟨v, tp, _, _, _, r, rfl, g, .cons (.ty x) (.cons (.ty y) .nil), ty, h, q⟩
theorem rd_zp {ta : TA} {σ : L2.St} {H : Hp} {R : It → Hp → Prop} (q : ta σ H fun vs H1 => ∃ a b xs ys, vs = [.ref a, .ref b] ∧ ((SqL K H1 a xs ∧ SqL K H1 b ys ∧ R (Itz K a b) H1) ∨ (SqT K H1 a xs ∧ SqT K H1 b ys ∧ R (RZ.ItzT K a b) H1))) : RZ.iZipA K ta σ H R := q
theorem all_true (n : Nat) : (List.replicate n true).all id = true := by
  rw [List.all_eq_true]
  intro x hx
  exact (List.mem_replicate.mp hx).2
theorem equal_n (T : Txt K mg a) : ∀ n : Nat, FnOk P w K mg base CX0 n a.f__law_equal a.d__law_equal ["found", "due"] (spSame n)
  | 0 => ⟨fun _ _ _ _ ⟨_, _, _, h, _⟩ => h.elim, fun _ _ _ _ _ _ _ _ _ _ _ _ _ ⟨_, _, _, h, _⟩ => h.elim⟩
  | n + 1 => by
    have ih := equal_n T n
    refine T.F__law_equal.ok sc__law_equal (fun vs H Q E h => ?_) (fun cdv A outer s H vs Q E hr h => ?_)
    · obtain ⟨v, e, rfl, _⟩ := h
      rfl
    · obtain ⟨v, e, rfl, hd, kq⟩ := h
      have nd := sc__law_equal.nd
      have hu64 := hr.units
      refine ⟨_, (pss_cons (ps_if (pt_val (pe_callB (kisiT (K := K)) (by rfl) T.b_isinstance (by decide +kernel) (pa_cons (pv 1) (pa_cons (pe_tup (pa_cons (pe_bltn (v := .ty "list") (by rfl) T.b_list (by decide +kernel) rfl) (pa_cons (pe_bltn (v := .ty "tuple") (by rfl) T.b_tuple (by decide +kernel) rfl) pa_nil))) pa_nil)))) (pss_cons (ps_if (PW.pt (pw_or (pt_cmpR op_ne (pe_callB (kisi (K := K)) (by rfl) T.b_isinstance (by decide +kernel) (pa_cons (pv 0) (pa_cons (pe_bltn (v := .ty "list") (by rfl) T.b_list (by decide +kernel) rfl) pa_nil))) (pe_callB (kisi (K := K)) (by rfl) T.b_isinstance (by decide +kernel) (pa_cons (pv 1) (pa_cons (pe_bltn (v := .ty "list") (by rfl) T.b_list (by decide +kernel) rfl) pa_nil))) (nomark _)) (pw_or1 (pt_cmpR op_ne (pe_callB (kisi (K := K)) (by rfl) T.b_isinstance (by decide +kernel) (pa_cons (pv 0) (pa_cons (pe_bltn (v := .ty "tuple") (by rfl) T.b_tuple (by decide +kernel) rfl) pa_nil))) (pe_callB (kisi (K := K)) (by rfl) T.b_isinstance (by decide +kernel) (pa_cons (pv 1) (pa_cons (pe_bltn (v := .ty "tuple") (by rfl) T.b_tuple (by decide +kernel) rfl) pa_nil))) (nomark _))))) (pss_one (ps_ret pe_bl)) pss_nil)
      (pss_one (ps_ret (pe_and (pe_cmpR op_eq (pe_callB (klen (K := K)) (by rfl) T.b_len (by decide +kernel) (pa_cons (pv 0) pa_nil)) (pe_callB (klen (K := K)) (by rfl) T.b_len (by decide +kernel) (pa_cons (pv 1) pa_nil)) (nomark _)) (pe_one (pe_callB (kall (K := K) rfl) (by rfl) T.b_all (by decide +kernel) (pa_cons (pe_lc (own := [("one", 2), ("other", 3)]) (g := gTup K 2 (gCons (gName 2) (gCons (gName 3) gNil))) (tt := tYes) rfl nd (RZ.pi_zipA rfl T.b_zip (pa_cons (pv 0) (pa_cons (pv 1) pa_nil))) (blkOk_by (own := [("one", 2), ("other", 3)]) (N := ["found", "due", "one", "other"]) (sc := defScope s__law_equal) (by decide +kernel)) (fun _ _ _ _ _ => (kpg_tup (K := K) rfl (pgs_cons (pg_name (i := 2) nd rfl (Or.inl rfl)) (pgs_cons (pg_name (i := 3) nd rfl (Or.inl rfl)) pgs_nil)))) (fun _ _ _ _ _ => pts_nil) (fun _ _ _ _ _ => (pe_call ih hr rfl T.g__law_equal T.k__law_equal T.n__law_equal .nil pass0 (pa_cons (pv 2) (pa_cons (pv 3) pa_nil))))) pa_nil))))))) pss_nil)
      (pss_cons (ps_if (PW.pt (pw_or (pt_cmpR kisN (pv 1) pe_non (nomark _)) (pw_or1 (pt_val (pe_callB (kisiT (K := K)) (by rfl) T.b_isinstance (by decide +kernel) (pa_cons (pv 1) (pa_cons (pe_tup (pa_cons (pe_bltn (v := .ty "bool") (by rfl) T.b_bool (by decide +kernel) rfl) (pa_cons (pe_bltn (v := .ty "str") (by rfl) T.b_str (by decide +kernel) rfl) pa_nil))) pa_nil))))))) (pss_one (ps_ret (pe_and (pe_cmpR op_eq (pv 0) (pv 1) (nomark _)) (pe_one (pe_cmpR op_eq (pe_callB (kisi (K := K)) (by rfl) T.b_isinstance (by decide +kernel) (pa_cons (pv 0) (pa_cons (pe_bltn (v := .ty "bool") (by rfl) T.b_bool (by decide +kernel) rfl) pa_nil))) (pe_callB (kisi (K := K)) (by rfl) T.b_isinstance (by decide +kernel) (pa_cons (pv 1) (pa_cons (pe_bltn (v := .ty "bool") (by rfl) T.b_bool (by decide +kernel) rfl) pa_nil))) (nomark _)))))) pss_nil)
      (pss_one (ps_ret (pe_and (pe_callB (kisi (K := K)) (by rfl) T.b_isinstance (by decide +kernel) (pa_cons (pv 0) (pa_cons (pe_bltn (v := .ty "int") (by rfl) T.b_int (by decide +kernel) rfl) pa_nil))) (pe_and (pe_not (pe_callB (kisi (K := K)) (by rfl) T.b_isinstance (by decide +kernel) (pa_cons (pv 0) (pa_cons (pe_bltn (v := .ty "bool") (by rfl) T.b_bool (by decide +kernel) rfl) pa_nil)))) (pe_one (pe_cmpR op_eq (pv 0) (pv 1) (nomark _))))))))), ?_⟩
      rcases hd with ⟨rfl, rfl⟩ | ⟨i, rfl, rfl⟩ | ⟨x, rfl, rfl⟩ | ⟨c, d, xs, ys, rfl, rfl, h1, h2, h3, h4, h5⟩ | ⟨c, d, xs, ys, rfl, rfl, h1, h2, h3, h4, h5⟩
      · walk_at "rd"
        refine ⟨by show 2 ≤ sizeLine; decide, fun tp htp => ?_⟩
        have s1 := sNew (o := .tup [.ty "list", .ty "tuple"]) htp
        walk_at "rd"
        refine rd_is2 (t := "NoneType") upd_same (.base .non) (kit2 _ _ _ false false false (by decide +kernel) (by decide +kernel) rfl) ?_
        walk_at "rd"
        refine ⟨rfl, ?_⟩
        walk_at "rd"
        refine rd_yes rfl ?_
        walk_at "rd"
        rw [decide_eq_true (show V.non = V.non from rfl)]
        walk_at "rd"
        refine rd_isi (.ty "bool") (.base .non) (kit_ty (r := false) (by decide +kernel)) ?_
        walk_at "rd"
        refine rd_isi (.ty "bool") (.base .non) (kit_ty (r := false) (by decide +kernel)) ?_
        walk_at "rd"
        rw [decide_eq_true (show V.bl false = V.bl false from rfl)]
        exact kq _ s1
      · walk_at "rd"
        refine ⟨by show 2 ≤ sizeLine; decide, fun tp htp => ?_⟩
        have s1 := sNew (o := .tup [.ty "list", .ty "tuple"]) htp
        walk_at "rd"
        refine rd_is2 (t := "int") upd_same (.base (.int _)) (kit2 _ _ _ false false false (by decide +kernel) (by decide +kernel) rfl) ?_
        walk_at "rd"
        refine ⟨rfl, ?_⟩
        walk_at "rd"
        refine rd_no (fun z => by cases z) ?_
        walk_at "rd"
        refine ⟨by show 2 ≤ sizeLine; decide, fun tq htq => ?_⟩
        have s2 := s1.trans (sNew (o := .tup [.ty "bool", .ty "str"]) htq)
        walk_at "rd"
        refine rd_is2 (t := "int") upd_same (.base (.int _)) (kit2 _ _ _ false false false (by decide +kernel) (by decide +kernel) rfl) ?_
        walk_at "rd"
        refine rd_isi (.ty "int") (.base (.int _)) (kit_ty (r := true) (by decide +kernel)) ?_
        walk_at "rd"
        refine rd_isi (.ty "bool") (.base (.int _)) (kit_ty (r := false) (by decide +kernel)) ?_
        walk_at "rd"
        rw [decide_eq_true (show V.int i = V.int i from rfl)]
        exact kq _ s2
      · walk_at "rd"
        refine ⟨by show 2 ≤ sizeLine; decide, fun tp htp => ?_⟩
        have s1 := sNew (o := .tup [.ty "list", .ty "tuple"]) htp
        walk_at "rd"
        refine rd_is2 (t := "str") upd_same (.base (.str _)) (kit2 _ _ _ false false false (by decide +kernel) (by decide +kernel) rfl) ?_
        walk_at "rd"
        refine ⟨rfl, ?_⟩
        walk_at "rd"
        refine rd_no (fun z => by cases z) ?_
        walk_at "rd"
        refine ⟨by show 2 ≤ sizeLine; decide, fun tq htq => ?_⟩
        have s2 := s1.trans (sNew (o := .tup [.ty "bool", .ty "str"]) htq)
        walk_at "rd"
        refine rd_is2 (t := "str") upd_same (.base (.str _)) (kit2 _ _ _ false true true (by decide +kernel) (by decide +kernel) rfl) ?_
        walk_at "rd"
        rw [decide_eq_true (show V.str x = V.str x from rfl)]
        walk_at "rd"
        refine rd_isi (.ty "bool") (.base (.str _)) (kit_ty (r := false) (by decide +kernel)) ?_
        walk_at "rd"
        refine rd_isi (.ty "bool") (.base (.str _)) (kit_ty (r := false) (by decide +kernel)) ?_
        walk_at "rd"
        rw [decide_eq_true (show V.bl false = V.bl false from rfl)]
        exact kq _ s2
      · walk_at "rd"
        refine ⟨by show 2 ≤ sizeLine; decide, fun tp htp => ?_⟩
        have s1 := sNew (o := .tup [.ty "list", .ty "tuple"]) htp
        walk_at "rd"
        refine rd_is2 (t := "list") upd_same (.base (.lst (s1 _ _ h2))) (kit2 _ _ _ true false true (by decide +kernel) (by decide +kernel) rfl) ?_
        walk_at "rd"
        generalize upd H tp (.tup [.ty "list", .ty "tuple"]) = G at s1
        have k1 := s1 _ _ h1
        have k2 := s1 _ _ h2
        refine rd_isi (.ty "list") (.base (.lst k1)) (kit_ty (r := true) (by decide +kernel)) ?_
        walk_at "rd"
        refine rd_isi (.ty "list") (.base (.lst k2)) (kit_ty (r := true) (by decide +kernel)) ?_
        walk_at "rd"
        refine rd_ndec (fun k => absurd rfl k) fun _ => ?_
        walk_at "rd"
        refine rd_isi (.ty "tuple") (.base (.lst k1)) (kit_ty (r := false) (by decide +kernel)) ?_
        walk_at "rd"
        refine rd_isi (.ty "tuple") (.base (.lst k2)) (kit_ty (r := false) (by decide +kernel)) ?_
        walk_at "rd"
        refine rd_ndec (fun k => absurd rfl k) fun _ => ?_
        walk_at "rd"
        rw [decide_eq_true (show V.int (xs.length : Nat) = V.int (ys.length : Nat) by rw [h3])]
        walk_at "rd"
        refine rd_lc (rd_zp ?_)
        walk_at "rd"
        refine ⟨c, d, xs, ys, rfl, Or.inl ⟨SqL.of k1, SqL.of k2, fun D hD => lc_pairs (J := Itz K c d) (xs := xs) (ys := ys) (n := xs.length) hD h4 (fun i H' s hi => ?_) (fun H' s => ?_) (fun i H' x H'' s hy => ?_) (fun i u v hu hv T' H' s g R hR => ?_) fun H' s e => ?_⟩⟩
        · exact ⟨xs, ys, _, _, SqL.of (s _ _ k1), SqL.of (s _ _ k2), List.getElem?_eq_getElem hi, List.getElem?_eq_getElem (by omega)⟩
        · exact ⟨xs, ys, SqL.of (s _ _ k1), SqL.of (s _ _ k2), Or.inl (Nat.le_refl _)⟩
        · obtain ⟨T', u, v, e1, e2, e3, f1, f2⟩ := hy
          exact ⟨T', u, v, e1, e2, e3, f1 _ (SqL.of (s _ _ k1)), f2 _ (SqL.of (s _ _ k2))⟩
        · refine rd_gtup g rfl ?_
          walk_at "rd"
          refine ⟨rfl, ?_⟩
          walk_at "rd"
          exact ⟨u, v, rfl, SD.mono (s1.trans s) n _ _ (h5 i u v hu hv), fun H'' s' => hR _ s'⟩
        · walk_at "rd"
          refine ⟨D, _, rfl, SqL.of e, ?_⟩
          rw [all_true]
          exact kq _ (s1.trans s)
      · walk_at "rd"
        refine ⟨by show 2 ≤ sizeLine; decide, fun tp htp => ?_⟩
        have s1 := sNew (o := .tup [.ty "list", .ty "tuple"]) htp
        walk_at "rd"
        refine rd_is2 (t := "tuple") upd_same (.base (.tup (s1 _ _ h2))) (kit2 _ _ _ false true true (by decide +kernel) (by decide +kernel) rfl) ?_
        walk_at "rd"
        generalize upd H tp (.tup [.ty "list", .ty "tuple"]) = G at s1
        have k1 := s1 _ _ h1
        have k2 := s1 _ _ h2
        refine rd_isi (.ty "list") (.base (.tup k1)) (kit_ty (r := false) (by decide +kernel)) ?_
        walk_at "rd"
        refine rd_isi (.ty "list") (.base (.tup k2)) (kit_ty (r := false) (by decide +kernel)) ?_
        walk_at "rd"
        refine rd_ndec (fun k => absurd rfl k) fun _ => ?_
        walk_at "rd"
        refine rd_isi (.ty "tuple") (.base (.tup k1)) (kit_ty (r := true) (by decide +kernel)) ?_
        walk_at "rd"
        refine rd_isi (.ty "tuple") (.base (.tup k2)) (kit_ty (r := true) (by decide +kernel)) ?_
        walk_at "rd"
        refine rd_ndec (fun k => absurd rfl k) fun _ => ?_
        walk_at "rd"
        rw [decide_eq_true (show V.int (xs.length : Nat) = V.int (ys.length : Nat) by rw [h3])]
        walk_at "rd"
        refine rd_lc (rd_zp ?_)
        walk_at "rd"
        refine ⟨c, d, xs, ys, rfl, Or.inr ⟨SqT.of k1, SqT.of k2, fun D hD => lc_pairs (J := RZ.ItzT K c d) (xs := xs) (ys := ys) (n := xs.length) hD h4 (fun i H' s hi => ?_) (fun H' s => ?_) (fun i H' x H'' s hy => ?_) (fun i u v hu hv T' H' s g R hR => ?_) fun H' s e => ?_⟩⟩
        · exact ⟨xs, ys, _, _, SqT.of (s _ _ k1), SqT.of (s _ _ k2), List.getElem?_eq_getElem hi, List.getElem?_eq_getElem (by omega)⟩
        · exact ⟨xs, ys, SqT.of (s _ _ k1), SqT.of (s _ _ k2), Or.inl (Nat.le_refl _)⟩
        · obtain ⟨T', u, v, e1, e2, e3, f1, f2⟩ := hy
          exact ⟨T', u, v, e1, e2, e3, f1 _ (SqT.of (s _ _ k1)), f2 _ (SqT.of (s _ _ k2))⟩
        · refine rd_gtup g rfl ?_
          walk_at "rd"
          refine ⟨rfl, ?_⟩
          walk_at "rd"
          exact ⟨u, v, rfl, SD.mono (s1.trans s) n _ _ (h5 i u v hu hv), fun H'' s' => hR _ s'⟩
        · walk_at "rd"
          refine ⟨D, _, rfl, SqL.of e, ?_⟩
          rw [all_true]
          exact kq _ (s1.trans s)
end K77

namespace K77
open PySem L2 LX LQ
variable {P : Program} {w : World} {K : PySem.W.Frag} {mg : Str → Option Value} {base : Heap} {a : Ad}
theorem sd_of2 {H : Hp} : ∀ (n : Nat) {v e : V} {x y : PyData}, Fr E0h H v x → Fr E0h H e y → okST n x y = true → SD n H v e
  | 0, _, _, _, _, _, _, h => nomatch h
  | n + 1, v, e, x, y, f, g, h => by
    cases f with
    | non => cases g <;> first | exact Or.inl ⟨rfl, rfl⟩ | exact absurd h Bool.false_ne_true
    | bl b => cases g <;> exact absurd h Bool.false_ne_true
    | int i =>
      cases g with
      | int j =>
        have : i = j := eq_of_beq (show (i == j) = true from h)
        subst this
        exact SD.int
      | _ => exact absurd h Bool.false_ne_true
    | str i =>
      cases g with
      | str j =>
        have : i = j := eq_of_beq (show (i == j) = true from h)
        subst this
        exact SD.str
      | _ => exact absurd h Bool.false_ne_true
    | lst h1 _ hs =>
      cases g with
      | lst k1 _ ks =>
        simp only [okST, Bool.and_eq_true, decide_eq_true_iff, List.all_eq_true] at h
        refine SD.lst h1 k1 (by rw [hs.len, ks.len]; exact h.1.1) (by rw [hs.len]; exact h.1.2) fun i u w hu hw => ?_
        obtain ⟨d, hd, fd⟩ := frl_get i hs hu
        obtain ⟨d2, hd2, fd2⟩ := frl_get i ks hw
        refine sd_of2 n fd fd2 (h.2 (d, d2) ?_)
        refine List.mem_of_getElem? (i := i) ?_
        rw [List.getElem?_zip_eq_some]
        exact ⟨hd, hd2⟩
      | _ => exact absurd h Bool.false_ne_true
    | tup h1 hs =>
      cases g with
      | tup k1 ks =>
        simp only [okST, Bool.and_eq_true, decide_eq_true_iff, List.all_eq_true] at h
        refine SD.tup h1 k1 (by rw [hs.len, ks.len]; exact h.1.1) (by rw [hs.len]; exact h.1.2) fun i u w hu hw => ?_
        obtain ⟨d, hd, fd⟩ := frl_get i hs hu
        obtain ⟨d2, hd2, fd2⟩ := frl_get i ks hw
        refine sd_of2 n fd fd2 (h.2 (d, d2) ?_)
        refine List.mem_of_getElem? (i := i) ?_
        rw [List.getElem?_zip_eq_some]
        exact ⟨hd, hd2⟩
      | _ => exact absurd h Bool.false_ne_true
    | dic h1 _ hs => cases g <;> exact absurd h Bool.false_ne_true
def sp__law_equal (K : PySem.W.Frag) : Sp := fun vs H Q _ => ∃ (v1 : V) (x_found : PyData) (v2 : V) (x_due : PyData), vs = [v1, v2] ∧ Fr E0h H v1 (eA x_found) ∧ Fr E0h H v2 (eA x_due) ∧ ∃ r, LQF.F__law_equal x_found x_due = some r ∧ ∀ (G H' : Hp), Ret [] H G H' → Q (.bl (r)) H'
theorem ok__law_equal (T : Txt K mg a) : FnOk P w K mg base CX0 4 a.f__law_equal a.d__law_equal ["found", "due"] (sp__law_equal K) := (equal_n T 4).imp fun vs H Q E h => by
  obtain ⟨v1, x, v2, y, rfl, f1, f2, r, hr, kq⟩ := h
  obtain ⟨h1, h2⟩ := grd hr
  cases som h2
  exact ⟨v1, v2, rfl, sd_of2 4 f1 f2 h1, fun H' s => kq H' H' (Ret.same s)⟩
end K77

namespace LQF
open PySem L2 LX LQ
def F__law_bag (x_cell : Int) : Option (List Int) :=
  (modF x_cell (((10 : Int) ^ (38 : Nat)) + (133 : Int))).bind fun y1411 =>
some [(maxI (0 : Int) (x_cell - ((10 : Int) ^ (18 : Nat)))), y1411, (0 : Int)]
def F__law_draw (x_bag : (List Int)) (x_limit : Int) : Option (Int × (List Int)) :=
  (ix x_bag (0 : Int)).bind fun y1423 =>
cond (decide ((0 : Int) < y1423)) ((ix x_bag (0 : Int)).bind fun y1427 =>
(modF y1427 x_limit).bind fun y1431 =>
(ix x_bag (0 : Int)).bind fun y1433 =>
(divF y1433 x_limit).bind fun y1437 =>
(setF x_bag (0 : Int) y1437).bind fun l1439 =>
some (y1431, l1439)) ((ix x_bag (2 : Int)).bind fun y1445 =>
(setF x_bag (2 : Int) (y1445 + (1 : Int))).bind fun l1449 =>
(ix l1449 (1 : Int)).bind fun y1455 =>
(ix l1449 (2 : Int)).bind fun y1459 =>
(powF (y1455 + ((15485863 : Int) * y1459)) (3 : Int)).bind fun y1463 =>
(modF y1463 (((10 : Int) ^ (36 : Nat)) + (67 : Int))).bind fun y1465 =>
(ix l1449 (2 : Int)).bind fun y1467 =>
(powF (y1465 + ((32452867 : Int) * y1467)) (5 : Int)).bind fun y1471 =>
(modF y1471 (((10 : Int) ^ (40 : Nat)) + (121 : Int))).bind fun y1473 =>
(divF y1473 (1048583 : Int)).bind fun y1475 =>
(modF y1475 x_limit).bind fun y1477 =>
some (y1477, l1449))
def F__law_lineup (x_bag : (List Int)) (x_most : Int) : Option ((List (Int × Str)) × (List Int)) :=
  (F__law_draw x_bag x_most).bind fun y1484 =>
(F__law_draw y1484.2 (5 : Int)).bind fun y1503 =>
(ix [(Str.ofString "ab"), (Str.ofString "abc"), (Str.ofString "abcdefgh"), (Str.ofString "abcdefghijklmnopqrstuvwxyz"), (Str.ofString "zy")] y1503.1).bind fun y1516 =>
(F__law_draw y1503.2 (4 : Int)).bind fun y1523 =>
(lrgF (0 : Int) ((1 : Int) + y1484.1)).bind fun l1536 =>
(rngF (0 : Int) ((1 : Int) + y1484.1)).bind fun l1548 =>
(loopF (fun (a1550 : Int) (s1551 : ((List (Int × Str)) × (List Int) × (List Int))) => (lenS y1516).bind fun y1577 =>
(F__law_draw s1551.2.2 y1577).bind fun y1579 =>
(ixS y1516 y1579.1).bind fun y1592 =>
((cond (decide (y1523.1 = (2 : Int))) ((eqvF ((eL (eT2 eI eS)) s1551.1) ((eL (eT2 eI eS)) ([] : (List (Int × Str))))).bind fun b1648 =>
cond (!b1648) ((F__law_draw y1579.2 (3 : Int)).bind fun y1650 =>
some ((decide ((0 : Int) < y1650.1)), y1650.2)) (some (false, y1579.2))) (some (false, y1579.2))).bind fun b1664 =>
cond b1664.1 ((ix s1551.1 (-(1 : Int))).bind fun y1674 =>
some (y1674.2, b1664.2)) (some (y1592, b1664.2))).bind fun (r1639 : (Str × (List Int))) =>
(cond (decide (y1523.1 = (3 : Int))) ((ixS y1516 (b2I (decide (a1550 = (((1 : Int) + y1484.1) - (1 : Int)))))).bind fun y1697 =>
some y1697) (some r1639.1)).bind fun (r1695 : Str) =>
(F__law_draw r1639.2 (lenI s1551.2.1)).bind fun y1704 =>
(popAtF s1551.2.1 y1704.1).bind fun y1717 =>
(appF s1551.1 (y1717.1, r1695)).bind fun l1731 =>
some (l1731, y1717.2, y1704.2)) l1548 (([] : (List (Int × Str))), l1536, y1523.2)).bind fun r1574 =>
some (r1574.1, r1574.2.2)
def F__law_leveling_calls (x_bag : (List Int)) (x_lineup : (List (Int × Str))) : Option ((List Int) × (List Int)) :=
  (compL (fun (a1764 : (Int × Str)) => (ix x_lineup (0 : Int)).bind fun y1786 =>
cond (!(decide (a1764.2 = y1786.2))) (some (some a1764.1)) (some none)) x_lineup).bind fun l1799 =>
(F__law_draw x_bag (3 : Int)).bind fun y1814 =>
(rngF (0 : Int) y1814.1).bind fun l1827 =>
(compLS (fun (a1862 : Int) (s1875 : (List Int)) => (F__law_draw s1875 (lenI x_lineup)).bind fun y1884 =>
some (some y1884.1, y1884.2)) l1827 y1814.2).bind fun l1899 =>
(catF l1799 l1899.1).bind fun y1915 =>
(catF y1915 l1899.1).bind fun y1929 =>
(F__law_draw l1899.2 (lenI x_lineup)).bind fun y1946 =>
(F__law_draw y1946.2 (3 : Int)).bind fun y1965 =>
(repF [y1946.1] y1965.1).bind fun y1978 =>
(catF y1929 y1978).bind fun y1989 =>
some (y1989, y1965.2)
def F__law_calls (x_bag : (List Int)) (x_size : Int) (x_most : Int) : Option ((List Int) × (List Int)) :=
  (F__law_draw x_bag (4 : Int)).bind fun y2007 =>
(ix [x_size, (minI x_size (3 : Int)), x_size, x_size] y2007.1).bind fun y2026 =>
(F__law_draw y2007.2 x_size).bind fun y2033 =>
(F__law_draw y2033.2 (x_most + (1 : Int))).bind fun y2051 =>
(rngF (0 : Int) y2051.1).bind fun l2064 =>
(loopF (fun (a2066 : Int) (s2067 : ((List Int) × (List Int))) => (F__law_draw s2067.2 y2026).bind fun y2091 =>
(ix [y2091.1, a2066] (b2I (decide (y2007.1 = (2 : Int))))).bind fun y2110 =>
(modF (y2033.1 + y2110) x_size).bind fun y2117 =>
(F__law_draw y2091.2 (4 : Int)).bind fun y2131 =>
(ix [(0 : Int), (0 : Int), (1 : Int), (2 : Int)] y2131.1).bind fun y2144 =>
(mulF y2144 (b2I (decide (y2007.1 = (3 : Int))))).bind fun y2151 =>
(repF [y2117] ((1 : Int) + y2151)).bind fun y2153 =>
(catF s2067.1 y2153).bind fun l2167 =>
some (l2167, y2131.2)) l2064 (([] : (List Int)), y2051.2)).bind fun r2088 =>
some ((cutL r2088.1 none (some x_most)), r2088.2)
def F__law_called (x_lineup : (List (Int × Str))) (x_person : Int) : Option (List (Int × Str)) :=
  (compL (fun (a2196 : (Int × Str)) => cond (decide (a2196.1 = x_person)) (some (some a2196.2)) (some none)) x_lineup).bind fun l2218 =>
(ix l2218 (0 : Int)).bind fun y2233 =>
(compL (fun (a2245 : (Int × Str)) => cond (!(decide (a2245.2 = y2233))) (some (some a2245.2)) (some none)) x_lineup).bind fun l2267 =>
((eqvF ((eL eS) l2267) ((eL eS) ([] : (List Str)))).bind fun b2289 =>
cond (!b2289) ((ix l2267 (0 : Int)).bind fun y2298 =>
some y2298) (some y2233)).bind fun y2305 =>
(compL (fun (a2329 : (Int × Str)) => cond (!(decide (a2329.1 = x_person))) (some (some a2329)) (some none)) x_lineup).bind fun l2351 =>
(catF [(x_person, y2305)] l2351).bind fun y2366 =>
some y2366
def F__law_applied (x_lineup : (List (Int × Str))) (x_calls : (List Int)) : Option (List (List (Int × Str))) :=
  (loopF (fun (a2401 : Int) (s2402 : (List (List (Int × Str)))) => (ix s2402 (-(1 : Int))).bind fun y2424 =>
(F__law_called y2424 a2401).bind fun y2429 =>
(appF s2402 y2429).bind fun l2441 =>
some l2441) x_calls [x_lineup]).bind fun r2420 =>
some r2420
def F__law_rounds (x_lineup : (List (Int × Str))) (x_calls : (List Int)) : Option ((List (List (Int × Str))) × Int) :=
  (whileF (fun (s2476 : (List (List (Int × Str)))) => (ix s2476 (-(1 : Int))).bind fun y2493 =>
(inDF ((eL (eT2 eI eS)) y2493) ((cutL s2476 none (some (-(1 : Int)))).map (eL (eT2 eI eS)))).bind fun b2504 =>
some (!b2504)) (fun (s2476 : (List (List (Int × Str)))) => (ix s2476 (-(1 : Int))).bind fun y2506 =>
(F__law_applied y2506 x_calls).bind fun y2511 =>
(ix y2511 (-(1 : Int))).bind fun y2523 =>
(appF s2476 y2523).bind fun l2531 =>
some l2531) fuelW [x_lineup]).bind fun r2490 =>
(ix r2490 (-(1 : Int))).bind fun y2549 =>
(idxDF ((eL (eT2 eI eS)) y2549) (r2490.map (eL (eT2 eI eS)))).bind fun y2554 =>
some ((cutL r2490 none (some (-(1 : Int)))), y2554)
def F__law_colors (x_lineup : (List (Int × Str))) (x_people : (List Int)) : Option Str :=
  (compL (fun (a2571 : Int) => some (some (a2571, true))) x_people).bind fun l2593 =>
(compL (fun (a2621 : (Int × Str)) => cond (dhas (dmerge [] l2593) a2621.1) (some (some a2621.2)) (some none)) x_lineup).bind fun l2646 =>
(setSF l2646).bind fun y2664 =>
(joinF (Str.ofString "") (sortU y2664)).bind fun y2683 =>
some y2683
def F_is_integer (x_value : Int) : Option Bool :=
  some (true && (!false))
def F_is_color (x_value : Str) : Option Bool :=
  (cond (decide ("str" = "str")) ((lenS x_value).bind fun y2689 =>
cond (decide (y2689 = (1 : Int))) (some ((!ltS x_value (Str.ofString "a")) && (!ltS (Str.ofString "z") x_value))) (some false)) (some false)).bind fun b2695 =>
some b2695
def F_is_colored_integer (x_value : (Int × Str)) : Option Bool :=
  (cond (decide ("tuple" = "tuple")) (cond (decide ((2 : Int) = (2 : Int))) ((F_is_integer x_value.1).bind fun y2719 =>
cond y2719 ((F_is_color x_value.2).bind fun y2734 =>
some y2734) (some false)) (some false)) (some false)).bind fun b2745 =>
some b2745
def F_is_lineup (x_value : (List (Int × Str))) : Option Bool :=
  cond ((!(decide ("list" = "list"))) || (!((decide ((1 : Int) ≤ (lenI x_value))) && (decide ((lenI x_value) ≤ (60 : Int)))))) (some false) ((loopC (fun (a2771 : (Int × Str)) (s2772 : Unit) => (F_is_colored_integer a2771).bind fun y2793 =>
cond (!y2793) (some (.ret false)) (some (.nx ()))) x_value ()).bind fun r2788_ => ctlK r2788_ (fun q => some q) fun r2788 =>
(compL (fun (a2815 : (Int × Str)) => some (some a2815.1)) x_value).bind fun l2837 =>
(lrgF (0 : Int) (lenI x_value)).bind fun l2863 =>
(eqvF ((eL eI) (sortI l2837)) ((eL eI) l2863)).bind fun b2871 =>
some b2871)
def F_check_lineup (x_value : (List (Int × Str))) : Option Unit :=
  (F_is_lineup x_value).bind fun y2876 =>
cond (!y2876) (none) (some ())
def F_is_person (x_lineup : (List (Int × Str))) (x_value : Int) : Option Bool :=
  ((F_is_integer x_value).bind fun y2890 =>
cond y2890 (some ((decide ((0 : Int) ≤ x_value)) && (decide (x_value < (lenI x_lineup))))) (some false)).bind fun b2907 =>
some b2907
def F_check_calls (x_lineup : (List (Int × Str))) (x_value : (List Int)) : Option Unit :=
  cond (!(decide ("list" = "list"))) (none) ((loopF (fun (a2924 : (Int × Int)) (s2925 : Unit) => (F_is_person x_lineup a2924.2).bind fun y2961 =>
cond (!y2961) (none) (some ())) (enumI x_value) ()).bind fun r2942 =>
some ())
def F_check_round (x_lineup : (List (Int × Str))) (x_calls : (List Int)) : Option Unit :=
  (F_check_lineup x_lineup).bind fun y2983 =>
(F_check_calls x_lineup x_calls).bind fun y2993 =>
cond (!(!x_calls.isEmpty)) (none) (some ())
def F_first_other_color (x_lineup : (List (Int × Str))) (x_color : Str) : Option (Option Str) :=
  (loopC (fun (a3012 : (Int × Str)) (s3013 : Unit) => cond (!(decide (a3012.2 = x_color))) (some (.ret (some a3012.2))) (some (.nx ()))) x_lineup ()).bind fun r3030_ => ctlK r3030_ (fun q => some q) fun r3030 =>
some (none : (Option Str))
def F_colors_by_person (x_lineup : (List (Int × Str))) : Option (List Str) :=
  (repF [(Str.ofString "")] (lenI x_lineup)).bind fun y3059 =>
(loopF (fun (a3073 : (Int × Str)) (s3074 : (List Str)) => (setF s3074 a3073.1 a3073.2).bind fun l3103 =>
some l3103) x_lineup y3059).bind fun r3093 =>
some r3093
def F_apply_call (x_lineup : (List (Int × Str))) (x_person : Int) : Option ((List (Int × Str)) × (Option Str)) :=
  (F_colors_by_person x_lineup).bind fun y3123 =>
(ix y3123 x_person).bind fun y3135 =>
(F_first_other_color x_lineup y3135).bind fun y3142 =>
(compL (fun (a3157 : (Int × Str)) => cond (!(decide (a3157.1 = x_person))) (some (some a3157)) (some none)) x_lineup).bind fun l3179 =>
(cond y3142.isNone (some y3135) ((y3142).bind fun o3198 =>
some o3198)).bind fun y3201 =>
(catF [(x_person, y3201)] l3179).bind fun y3220 =>
some (y3220, y3142)
def F_lineup_after (x_lineup : (List (Int × Str))) (x_calls : (List Int)) : Option (List (Int × Str)) :=
  (F_check_lineup x_lineup).bind fun y3244 =>
(F_check_calls x_lineup x_calls).bind fun y3254 =>
(loopF (fun (a3276 : Int) (s3277 : (List (Int × Str))) => (F_apply_call s3277 a3276).bind fun y3300 =>
some y3300.1) x_calls x_lineup).bind fun r3296 =>
some r3296
def F_lineups_by_round (x_lineup : (List (Int × Str))) (x_calls : (List Int)) : Option ((List (List (Int × Str))) × Int) :=
  (whileF (fun (s3344 : ((List (Int × Str)) × (List (List (Int × Str))))) => (inDF ((eL (eT2 eI eS)) s3344.1) (s3344.2.map (eL (eT2 eI eS)))).bind fun b3363 =>
some (!b3363)) (fun (s3344 : ((List (Int × Str)) × (List (List (Int × Str))))) => (appF s3344.2 s3344.1).bind fun l3365 =>
(F_lineup_after s3344.1 x_calls).bind fun y3371 =>
some (y3371, l3365)) fuelW (x_lineup, ([] : (List (List (Int × Str)))))).bind fun r3360 =>
(idxDF ((eL (eT2 eI eS)) r3360.1) (r3360.2.map (eL (eT2 eI eS)))).bind fun y3391 =>
some (r3360.2, y3391)
def F_rounds_until_one_color (x_lineup : (List (Int × Str))) (x_calls : (List Int)) : Option (Option Int) :=
  (F_check_round x_lineup x_calls).bind fun y3407 =>
(F_lineups_by_round x_lineup x_calls).bind fun y3417 =>
(loopC (fun (a3438 : (Int × (List (Int × Str)))) (s3439 : Unit) => (ix a3438.2 (0 : Int)).bind fun y3476 =>
(F_first_other_color a3438.2 y3476.2).bind fun y3489 =>
cond y3489.isNone (some (.ret (some a3438.1))) (some (.nx ()))) (enumI y3417.1) ()).bind fun r3456_ => ctlK r3456_ (fun q => some q) fun r3456 =>
some (none : (Option Int))
def F_is_order (x_lineup : (List (Int × Str))) (x_value : (List Int)) : Option Bool :=
  (cond (!(decide ("list" = "list"))) (some true) ((compL (fun (a3520 : Int) => (F_is_person x_lineup a3520).bind fun y3536 =>
some (some y3536)) x_value).bind fun l3546 =>
some (!(l3546.all id)))).bind fun b3564 =>
cond b3564 (some false) ((lrgF (0 : Int) (lenI x_lineup)).bind fun l3583 =>
(eqvF ((eL eI) (sortI x_value)) ((eL eI) l3583)).bind fun b3591 =>
some b3591)
def F_check_order (x_lineup : (List (Int × Str))) (x_value : (List Int)) : Option Unit :=
  (F_is_order x_lineup x_value).bind fun y3598 =>
cond (!y3598) (none) (some ())
def F_colors_in_order (x_lineup : (List (Int × Str))) : Option Str :=
  (F_check_lineup x_lineup).bind fun y3611 =>
(loopF (fun (a3624 : (Int × Str)) (s3625 : Str) => (inSF a3624.2 s3625).bind fun b3652 =>
cond (!b3652) ((catS s3625 a3624.2).bind fun y3654 =>
some y3654) (some s3625)) x_lineup (Str.ofString "")).bind fun r3642 =>
some r3642
def F_colors_left_by (x_lineup : (List (Int × Str))) (x_order : (List Int)) : Option Str :=
  (F_check_lineup x_lineup).bind fun y3667 =>
(F_check_order x_lineup x_order).bind fun y3677 =>
(F_lineup_after x_lineup x_order).bind fun y3687 =>
(F_colors_in_order y3687).bind fun y3699 =>
(charsF y3699).bind fun l3709 =>
(joinF (Str.ofString "") (sortS l3709)).bind fun y3720 =>
some y3720
def F__law_holds (x_lineup : (List (Int × Str))) (x_calls : (List Int)) (x_order : (List Int)) : Option Bool :=
  (reprF (.list [(eL (eT2 eI eS)) x_lineup, (eL eI) x_calls, (eL eI) x_order])).bind fun y3734 =>
(lrgF (0 : Int) (lenI x_lineup)).bind fun l3739 =>
(F__law_rounds x_lineup x_calls).bind fun y3747 =>
(rngF (0 : Int) (lenI y3747.1)).bind fun l3768 =>
(compL (fun (a3772 : Int) => (ix y3747.1 a3772).bind fun y3787 =>
(F__law_colors y3787 l3739).bind fun y3795 =>
(lenS y3795).bind fun y3805 =>
cond (decide (y3805 = (1 : Int))) (some (some a3772)) (some none)) l3768).bind fun l3807 =>
((eqvF ((eL eI) l3807) ((eL eI) ([] : (List Int)))).bind fun b3829 =>
cond (!b3829) ((ix l3807 (0 : Int)).bind fun y3838 =>
some (some y3838)) (some (none : (Option Int)))).bind fun y3845 =>
(F__law_applied x_lineup x_order).bind fun y3852 =>
(ix y3852 (-(1 : Int))).bind fun y3864 =>
(F__law_colors y3864 l3739).bind fun y3872 =>
(F_rounds_until_one_color x_lineup x_calls).bind fun y3888 =>
(F_colors_left_by x_lineup x_order).bind fun y3898 =>
(F_rounds_until_one_color x_lineup x_calls).bind fun y3914 =>
(F_colors_left_by x_lineup x_order).bind fun y3924 =>
((F__law_equal ((eL eA) [((eO eI) y3888), (eS y3898)]) ((eL eA) [((eO eI) y3845), (eS y3872)])).bind fun y3941 =>
cond y3941 ((F__law_equal ((eL eA) [((eO eI) y3914), (eS y3924)]) ((eL eA) [((eO eI) y3845), (eS y3872)])).bind fun y3951 =>
cond y3951 ((reprF (.list [(eL (eT2 eI eS)) x_lineup, (eL eI) x_calls, (eL eI) x_order])).bind fun y3967 =>
some (decide (y3967 = y3734))) (some false)) (some false)).bind fun b3970 =>
some b3970
def F_law (x_script : (List Int)) : Option Bool :=
  (catF (cutL x_script none (some (8 : Int))) [(0 : Int)]).bind fun y3992 =>
(loopC (fun (a4009 : (Int × Int)) (s4010 : Unit) => (F__law_bag a4009.2).bind fun y4055 =>
(rngF (0 : Int) (cond (decide (a4009.1 = (lenI (cutL x_script none (some (8 : Int)))))) (1 : Int) (2 : Int))).bind fun l4081 =>
(loopC (fun (a4083 : Int) (s4084 : (List Int)) => (cond (decide (a4009.1 = (lenI (cutL x_script none (some (8 : Int)))))) (some ((3 : Int), s4084)) ((F__law_draw s4084 (3 : Int)).bind fun y4144 =>
(ix [(4 : Int), (12 : Int), (60 : Int)] y4144.1).bind fun y4157 =>
some (y4157, y4144.2))).bind fun y4164 =>
(F__law_lineup y4164.2 y4164.1).bind fun y4173 =>
(F__law_draw y4173.2 (lenI y4173.1)).bind fun y4196 =>
(cond (decide (a4009.1 = (lenI (cutL x_script none (some (8 : Int)))))) (some ((4 : Int), y4196.2)) ((F__law_draw y4196.2 (3 : Int)).bind fun y4247 =>
(ix [(12 : Int), (40 : Int), (199 : Int)] y4247.1).bind fun y4260 =>
some (y4260, y4247.2))).bind fun y4267 =>
(F__law_calls y4267.2 (lenI y4173.1) y4267.1).bind fun y4276 =>
(catF [y4196.1] y4276.1).bind fun y4291 =>
(lrgF (0 : Int) (lenI y4173.1)).bind fun l4302 =>
(rngF (0 : Int) (lenI y4173.1)).bind fun l4309 =>
(compLS (fun (a4349 : Int) (s4362 : ((List Int) × (List Int))) => (F__law_draw s4362.2 (lenI s4362.1)).bind fun y4371 =>
(popAtF s4362.1 y4371.1).bind fun y4384 =>
some (some y4384.1, (y4384.2, y4371.2))) l4309 (l4302, y4276.2)).bind fun l4396 =>
(F__law_leveling_calls l4396.2.2 y4173.1).bind fun y4409 =>
((F__law_holds y4173.1 y4291 l4396.1).bind fun y4425 =>
cond (!y4425) (some true) (((eqvF ((eL eI) y4409.1) ((eL eI) ([] : (List Int)))).bind fun b4442 =>
cond (!b4442) ((F__law_holds y4173.1 y4409.1 l4396.1).bind fun y4444 =>
some (!y4444)) (some false)).bind fun b4455 =>
some b4455)).bind fun b4463 =>
cond b4463 (some (.ret false)) ((F__law_draw y4409.2 (lenI y4173.1)).bind fun y4476 =>
(setF y4291 (0 : Int) y4476.1).bind fun l4489 =>
(F__law_holds y4173.1.reverse l4489 l4396.1.reverse).bind fun y4499 =>
cond (!y4499) (some (.ret false)) (some (.nx y4476.2)))) l4081 y4055).bind fun r4108_ => ctlK r4108_ (fun q => some (.ret q)) fun r4108 =>
some (.nx ())) (enumI y3992) ()).bind fun r4036_ => ctlK r4036_ (fun q => some q) fun r4036 =>
some true
end LQF

namespace K77
open PySem L2 LX LQ
section
variable {P : Program} {w : World} {K : PySem.W.Frag} {mg : Str → Option Value} {base : Heap} {a : Ad}
open LQF
def sp__law_bag (K : PySem.W.Frag) : Sp := fun vs H Q _ => ∃ (x_cell : Int), vs = [(.int x_cell)] ∧ ∃ r, F__law_bag x_cell = some r ∧ ∀ (a : Addr) (G H' : Hp), Ret [] H G H' → Fr H G (.ref a) ((eL eI) (r)) → Q (.ref a) H'
theorem ok__law_bag (T : Txt K mg a) : FnOk P w K mg base CX0 1 a.f__law_bag a.d__law_bag ["cell"] (sp__law_bag K) := by
  refine T.F__law_bag.ok sc__law_bag (fun vs H Q E h => ?_) (fun cdv A outer s H0 vs Q E hr h => ?_)
  · obtain ⟨x_cell, rfl, _⟩ := h
    rfl
  · obtain ⟨x_cell, rfl, r, h, kq⟩ := h
    have nd := sc__law_bag.nd
    have hu64 := hr.units
    have hu65 := units65 hr
    refine ⟨_, (pss_one (ps_ret (pe_lst (pa_cons (pe_callB (kmax2 rfl) (by rfl) T.b_max (by decide +kernel) (pa_cons pe_int (pa_cons (pe_op op_sub (pv 0) (pe_op op_powW pe_int pe_int)) pa_nil))) (pa_cons (pe_op op_mod (pv 0) (pe_op op_add (pe_op op_powW pe_int pe_int) pe_int)) (pa_cons pe_int pa_nil)))))), ?_⟩
    unfold F__law_bag at h
    have S0 := Sep.start H0
    refine rd_ret ?_
    refine rd_lstZ ?_
    refine rd_cons ?_
    refine rd_cb ?_
    refine rd_cons ?_
    refine rd_c ?_
    refine rd_cons ?_
    refine rd_op ?_
    refine rd_var rfl ?_
    refine rd_op ?_
    refine rd_c ?_
    refine rd_c ?_
    refine rd_I ⟨by decide, by decide, by decide⟩ ?_
    refine rd_I0 ?_
    refine rd_nil ?_
    refine q_max2 ?_
    refine rd_cons ?_
    refine rd_op ?_
    refine rd_var rfl ?_
    refine rd_op ?_
    refine rd_op ?_
    refine rd_c ?_
    refine rd_c ?_
    refine rd_I ⟨by decide, by decide, by decide⟩ ?_
    refine rd_c ?_
    refine rd_I0 ?_
    obtain ⟨y1411, h1412, h⟩ := bnd h
    refine q_mod h1412 ?_
    refine rd_cons ?_
    refine rd_c ?_
    refine rd_nil ?_
    refine q_lst (F0 := H0) (ds := [eI (maxI (0 : Int) (x_cell - ((10 : Int) ^ (18 : Nat)))), eI y1411, eI (0 : Int)]) S0 (by show 3 ≤ LIM; decide) (.cons (.int _) (.cons (.int _) (.cons (.int _) .nil))) S0.old fun a1413 G1414 H1415 S1416 s1417 f1418 => ?_
    replace f1418 : Fr H0 G1414 (.ref a1413) ((eL eI) [(maxI (0 : Int) (x_cell - ((10 : Int) ^ (18 : Nat)))), y1411, (0 : Int)]) := f1418
    cases h
    exact kq a1413 _ _ S1416.toRet f1418
end
end K77

namespace K77
open PySem L2 LX LQ
section
variable {P : Program} {w : World} {K : PySem.W.Frag} {mg : Str → Option Value} {base : Heap} {a : Ad}
open LQF
def sp__law_draw (K : PySem.W.Frag) : Sp := fun vs H Q _ => ∃ (a1419 : Addr) (w1420 : List V) (x_bag : (List Int)) (x_limit : Int), vs = [.ref a1419, (.int x_limit)] ∧ H a1419 = some (.lst w1420) ∧ FrL E0h (hid H [a1419]) w1420 (x_bag.map eI) ∧ ∃ r, F__law_draw x_bag x_limit = some r ∧ ∀ (u0 : List V) (G H' : Hp), Ret [a1419] H G H' → H' a1419 = some (.lst u0) → FrL E0h G u0 ((r.2).map eI) → Q (.int (r.1)) H'
theorem ok__law_draw (T : Txt K mg a) : FnOk P w K mg base CX0 1 a.f__law_draw a.d__law_draw ["bag", "limit"] (sp__law_draw K) := by
  refine T.F__law_draw.ok sc__law_draw (fun vs H Q E h => ?_) (fun cdv A outer s H0 vs Q E hr h => ?_)
  · obtain ⟨a1419, w1420, x_bag, x_limit, rfl, _⟩ := h
    rfl
  · obtain ⟨a1419, w1420, x_bag, x_limit, rfl, h1421, f1422, r, h, kq⟩ := h
    have nd := sc__law_draw.nd
    have hu64 := hr.units
    have hu65 := units65 hr
    refine ⟨_, (pss_cons (ps_if (pt_cmpR op_gt (pe_ix (kix_list (K := K)) (pv 0) pe_int (fun _ _ => rfl)) pe_int (nomark _)) (pss_cons (ps_set (i := 2) nd rfl (Or.inl rfl) (pe_op op_mod (pe_ix (kix_list (K := K)) (pv 0) pe_int (fun _ _ => rfl)) (pv 1)))
      (pss_cons (ps_asg (pe_op op_fdivW (pe_ix (kix_list (K := K)) (pv 0) pe_int (fun _ _ => rfl)) (pv 1)) (pg_sub (pv 0) pe_int set_list))
      (pss_one (ps_ret (pv 2))))) pss_nil)
      (pss_cons (ps_asg (pe_op op_add (pe_ix (kix_list (K := K)) (pv 0) pe_int (fun _ _ => rfl)) pe_int) (pg_sub (pv 0) pe_int set_list))
      (pss_cons (ps_set (i := 3) nd rfl (Or.inl rfl) (pe_op op_mod (pe_op op_powW (pe_op op_add (pe_ix (kix_list (K := K)) (pv 0) pe_int (fun _ _ => rfl)) (pe_op op_mul pe_int (pe_ix (kix_list (K := K)) (pv 0) pe_int (fun _ _ => rfl)))) pe_int) (pe_op op_add (pe_op op_powW pe_int pe_int) pe_int)))
      (pss_cons (ps_set (i := 3) nd rfl (Or.inl rfl) (pe_op op_mod (pe_op op_powW (pe_op op_add (pv 3) (pe_op op_mul pe_int (pe_ix (kix_list (K := K)) (pv 0) pe_int (fun _ _ => rfl)))) pe_int) (pe_op op_add (pe_op op_powW pe_int pe_int) pe_int)))
      (pss_one (ps_ret (pe_op op_mod (pe_op op_fdivW (pv 3) pe_int) (pv 1)))))))), ?_⟩
    unfold F__law_draw at h
    have S0 := Sep.start1 h1421
    refine rd_seq ?_
    refine rd_ifS ?_
    refine rd_test ?_
    refine rd_op ?_
    refine rd_op ?_
    refine rd_var rfl ?_
    refine rd_c ?_
    obtain ⟨y1423, h1424, h⟩ := bnd h
    refine q_ixL (S0.get 0 rfl) f1422 h1424 fun v1425 f1426 => ?_
    cases fr_int f1426
    refine rd_c ?_
    refine rd_I0 ?_
    refine rd_bl ?_
    rcases cnd h with ⟨c1479, h⟩ | ⟨c1479, h⟩
    ·
      refine iteY c1479 ?_
      refine rd_seq ?_
      refine rd_asg ?_
      refine rd_op ?_
      refine rd_op ?_
      refine rd_var rfl ?_
      refine rd_c ?_
      obtain ⟨y1427, h1428, h⟩ := bnd h
      refine q_ixL (S0.get 0 rfl) f1422 h1428 fun v1429 f1430 => ?_
      cases fr_int f1430
      refine rd_var rfl ?_
      obtain ⟨y1431, h1432, h⟩ := bnd h
      refine q_mod h1432 ?_
      refine rd_nameS (σ' := [some (.ref a1419), some (.int x_limit), some (.int y1431), none]) rfl ?_
      refine rd_mk ?_
      refine rd_seq ?_
      refine rd_asg ?_
      refine rd_op ?_
      refine rd_op ?_
      refine rd_var rfl ?_
      refine rd_c ?_
      obtain ⟨y1433, h1434, h⟩ := bnd h
      refine q_ixL (S0.get 0 rfl) f1422 h1434 fun v1435 f1436 => ?_
      cases fr_int f1436
      refine rd_var rfl ?_
      obtain ⟨y1437, h1438, h⟩ := bnd h
      refine q_div h1438 ?_
      refine rd_sub ?_
      refine rd_var rfl ?_
      refine rd_c ?_
      obtain ⟨l1439, h1440, h⟩ := bnd h
      refine q_setL S0 0 rfl f1422 (.int _) h1440 fun w1441 H1442 S1443 f1444 => ?_
      have S1443 : Sep [a1419] H0 (hid H0 [a1419]) H1442 [(a1419, .lst w1441)] := S1443
      refine rd_mk ?_
      refine rd_ret ?_
      refine rd_var rfl ?_
      cases h
      exact kq w1441 _ _ S1443.toRet (S1443.get 0 rfl) f1444
    ·
      refine iteN c1479 ?_
      refine rd_next ?_
      refine rd_mk ?_
      refine rd_seq ?_
      refine rd_asg ?_
      refine rd_op ?_
      refine rd_op ?_
      refine rd_var rfl ?_
      refine rd_c ?_
      obtain ⟨y1445, h1446, h⟩ := bnd h
      refine q_ixL (S0.get 0 rfl) f1422 h1446 fun v1447 f1448 => ?_
      cases fr_int f1448
      refine rd_c ?_
      refine rd_I0 ?_
      refine rd_sub ?_
      refine rd_var rfl ?_
      refine rd_c ?_
      obtain ⟨l1449, h1450, h⟩ := bnd h
      refine q_setL S0 0 rfl f1422 (.int _) h1450 fun w1451 H1452 S1453 f1454 => ?_
      have S1453 : Sep [a1419] H0 (hid H0 [a1419]) H1452 [(a1419, .lst w1451)] := S1453
      refine rd_mk ?_
      refine rd_seq ?_
      refine rd_asg ?_
      refine rd_op ?_
      refine rd_op ?_
      refine rd_op ?_
      refine rd_op ?_
      refine rd_var rfl ?_
      refine rd_c ?_
      obtain ⟨y1455, h1456, h⟩ := bnd h
      refine q_ixL (S1453.get 0 rfl) f1454 h1456 fun v1457 f1458 => ?_
      cases fr_int f1458
      refine rd_op ?_
      refine rd_c ?_
      refine rd_op ?_
      refine rd_var rfl ?_
      refine rd_c ?_
      obtain ⟨y1459, h1460, h⟩ := bnd h
      refine q_ixL (S1453.get 0 rfl) f1454 h1460 fun v1461 f1462 => ?_
      cases fr_int f1462
      refine rd_I (Or.inl ⟨by decide, by decide⟩) ?_
      refine rd_I0 ?_
      refine rd_c ?_
      obtain ⟨y1463, h1464, h⟩ := bnd h
      refine q_pow h1464 ?_
      refine rd_op ?_
      refine rd_op ?_
      refine rd_c ?_
      refine rd_c ?_
      refine rd_I ⟨by decide, by decide, by decide⟩ ?_
      refine rd_c ?_
      refine rd_I0 ?_
      obtain ⟨y1465, h1466, h⟩ := bnd h
      refine q_mod h1466 ?_
      refine rd_nameS (σ' := [some (.ref a1419), some (.int x_limit), none, some (.int y1465)]) rfl ?_
      refine rd_mk ?_
      refine rd_seq ?_
      refine rd_asg ?_
      refine rd_op ?_
      refine rd_op ?_
      refine rd_op ?_
      refine rd_var rfl ?_
      refine rd_op ?_
      refine rd_c ?_
      refine rd_op ?_
      refine rd_var rfl ?_
      refine rd_c ?_
      obtain ⟨y1467, h1468, h⟩ := bnd h
      refine q_ixL (S1453.get 0 rfl) f1454 h1468 fun v1469 f1470 => ?_
      cases fr_int f1470
      refine rd_I (Or.inl ⟨by decide, by decide⟩) ?_
      refine rd_I0 ?_
      refine rd_c ?_
      obtain ⟨y1471, h1472, h⟩ := bnd h
      refine q_pow h1472 ?_
      refine rd_op ?_
      refine rd_op ?_
      refine rd_c ?_
      refine rd_c ?_
      refine rd_I ⟨by decide, by decide, by decide⟩ ?_
      refine rd_c ?_
      refine rd_I0 ?_
      obtain ⟨y1473, h1474, h⟩ := bnd h
      refine q_mod h1474 ?_
      refine rd_nameS (σ' := [some (.ref a1419), some (.int x_limit), none, some (.int y1473)]) rfl ?_
      refine rd_mk ?_
      refine rd_ret ?_
      refine rd_op ?_
      refine rd_op ?_
      refine rd_var rfl ?_
      refine rd_c ?_
      obtain ⟨y1475, h1476, h⟩ := bnd h
      refine q_div h1476 ?_
      refine rd_var rfl ?_
      obtain ⟨y1477, h1478, h⟩ := bnd h
      refine q_mod h1478 ?_
      cases h
      exact kq w1451 _ _ S1453.toRet (S1453.get 0 rfl) f1454
end
end K77

namespace K77
open PySem L2 LX LQ
section
variable {P : Program} {w : World} {K : PySem.W.Frag} {mg : Str → Option Value} {base : Heap} {a : Ad}
open LQF
def sp__law_lineup (K : PySem.W.Frag) : Sp := fun vs H Q _ => ∃ (a1480 : Addr) (w1481 : List V) (x_bag : (List Int)) (x_most : Int), vs = [.ref a1480, (.int x_most)] ∧ H a1480 = some (.lst w1481) ∧ FrL E0h (hid H [a1480]) w1481 (x_bag.map eI) ∧ ∃ r, F__law_lineup x_bag x_most = some r ∧ ∀ (a : Addr) (u0 : List V) (G H' : Hp), Ret [a1480] H G H' → H' a1480 = some (.lst u0) → FrL E0h G u0 ((r.2).map eI) → Fr H G (.ref a) ((eL (eT2 eI eS)) (r.1)) → Q (.ref a) H'
theorem ok__law_lineup (T : Txt K mg a) : FnOk P w K mg base CX0 2 a.f__law_lineup a.d__law_lineup ["bag", "most"] (sp__law_lineup K) := by
  refine T.F__law_lineup.ok sc__law_lineup (fun vs H Q E h => ?_) (fun cdv A outer s H0 vs Q E hr h => ?_)
  · obtain ⟨a1480, w1481, x_bag, x_most, rfl, _⟩ := h
    rfl
  · obtain ⟨a1480, w1481, x_bag, x_most, rfl, h1482, f1483, r, h, kq⟩ := h
    have nd := sc__law_lineup.nd
    have hu64 := hr.units
    have hu65 := units65 hr
    refine ⟨_, (pss_cons (ps_set (i := 2) nd rfl (Or.inl rfl) (pe_op op_add pe_int (pe_call (ok__law_draw T) (hr.mono (by decide)) rfl T.g__law_draw T.k__law_draw T.n__law_draw .nil pass0 (pa_cons (pv 0) (pa_cons (pv 1) pa_nil)))))
      (pss_cons (ps_set (i := 3) nd rfl (Or.inl rfl) (pe_ix (kix_list (K := K)) (pe_lst (pa_cons pe_str (pa_cons pe_str (pa_cons pe_str (pa_cons pe_str (pa_cons pe_str pa_nil)))))) (pe_call (ok__law_draw T) (hr.mono (by decide)) rfl T.g__law_draw T.k__law_draw T.n__law_draw .nil pass0 (pa_cons (pv 0) (pa_cons pe_int pa_nil))) (fun _ _ => rfl)))
      (pss_cons (ps_set (i := 4) nd rfl (Or.inl rfl) (pe_call (ok__law_draw T) (hr.mono (by decide)) rfl T.g__law_draw T.k__law_draw T.n__law_draw .nil pass0 (pa_cons (pv 0) (pa_cons pe_int pa_nil))))
      (pss_cons (ps_set (i := 5) nd rfl (Or.inl rfl) (pe_listRg rfl rfl T.b_list (prg_1 rfl T.b_range (pv 2))))
      (pss_cons (ps_set (i := 6) nd rfl (Or.inl rfl) (pe_lst pa_nil))
      (pss_cons (ps_for PassesOwn.never rfl (pi_range1 rfl T.b_range (pa_cons (pv 2) pa_nil)) (pg_name (i := 7) nd rfl (Or.inl rfl)) (pss_cons (ps_set (i := 8) nd rfl (Or.inl rfl) (pe_ix ix_str (pv 3) (pe_call (ok__law_draw T) (hr.mono (by decide)) rfl T.g__law_draw T.k__law_draw T.n__law_draw .nil pass0 (pa_cons (pv 0) (pa_cons (pe_callB klenS (by rfl) T.b_len (by decide +kernel) (pa_cons (pv 3) pa_nil)) pa_nil))) (fun _ _ => rfl)))
      (Evl.pss_cut (ps_if (PW.pt (pw_and (pt_cmpR op_eq (pv 4) pe_int (nomark _)) (pw_and (pt_cmpR (kneD (K := K) hu64) (pv 6) (pe_lst pa_nil) (nomark _)) (pw_and1 (pt_cmpR op_gt (pe_call (ok__law_draw T) (hr.mono (by decide)) rfl T.g__law_draw T.k__law_draw T.n__law_draw .nil pass0 (pa_cons (pv 0) (pa_cons pe_int pa_nil))) pe_int (nomark _)))))) (pss_one (ps_set (i := 8) nd rfl (Or.inl rfl) (pe_ix (kix_tup (K := K)) (pe_ix (kix_list (K := K)) (pv 6) (pe_un un_neg pe_int) (fun _ _ => rfl)) pe_int (fun _ _ => rfl)))) pss_nil)
      (Evl.pss_cut (ps_if (pt_cmpR op_eq (pv 4) pe_int (nomark _)) (pss_one (ps_set (i := 8) nd rfl (Or.inl rfl) (pe_ix ix_str (pv 3) (pe_callTy kint1 (by rfl) T.b_int (by decide +kernel) (pa_cons (pe_cmpR op_eq (pv 7) (pe_op op_sub (pv 2) pe_int) (nomark _)) pa_nil)) (fun _ _ => rfl)))) pss_nil)
      (pss_one (ps_expr (kbm (K := K) PySem.F.plainAttrs_list PySem.F.slot_list_append PySem.F.type_list_append mt_append (pv 6) (pa_cons (pe_tup (pa_cons (kbm (K := K) PySem.F.plainAttrs_list PySem.F.slot_list_pop PySem.F.type_list_pop mt_popAt (pv 5) (pa_cons (pe_call (ok__law_draw T) (hr.mono (by decide)) rfl T.g__law_draw T.k__law_draw T.n__law_draw .nil pass0 (pa_cons (pv 0) (pa_cons (pe_callB (klen (K := K)) (by rfl) T.b_len (by decide +kernel) (pa_cons (pv 5) pa_nil)) pa_nil))) pa_nil)) (pa_cons (pv 8) pa_nil))) pa_nil))))))))
      (pss_one (ps_ret (pv 6))))))))), ?_⟩
    unfold F__law_lineup at h
    have S0 := Sep.start1 h1482
    refine rd_seq ?_
    refine rd_asg ?_
    refine rd_op ?_
    refine rd_c ?_
    refine rd_call ?_
    refine rd_cons ?_
    refine rd_var rfl ?_
    refine rd_cons ?_
    refine rd_var rfl ?_
    refine rd_nil ?_
    obtain ⟨y1484, h1485, h⟩ := bnd h
    refine ⟨a1480, w1481, x_bag, x_most, rfl, (S0.get 0 rfl), (f1483.same (S0.hid1 0 rfl)), y1484, h1485, fun w1489 G1486 H1487 R1488 h1490 k1491 => ?_⟩
    obtain ⟨G1492, S1493, s1494, t1495, l1496⟩ := S0.ret1 0 rfl R1488 h1490 lst_tup
    have k1491 := l1496 _ _ (k1491.imm (flat_map flI _))
    have f1483 := f1483.same s1494
    have k1491 := k1491.rp
    have S1493 : Sep [a1480] H0 G1492 H1487 [(a1480, .lst w1489)] := S1493
    refine rd_I0 ?_
    refine rd_nameS (σ' := [some (.ref a1480), some (.int x_most), some (.int ((1 : Int) + y1484.1)), none, none, none, none, none, none]) rfl ?_
    refine rd_mk ?_
    refine rd_seq ?_
    refine rd_asg ?_
    refine rd_op ?_
    refine rd_lstZ ?_
    refine rd_cons ?_
    refine rd_c ?_
    refine rd_cons ?_
    refine rd_c ?_
    refine rd_cons ?_
    refine rd_c ?_
    refine rd_cons ?_
    refine rd_c ?_
    refine rd_cons ?_
    refine rd_c ?_
    refine rd_nil ?_
    refine q_lst (F0 := H0) (ds := [eS (Str.ofString "ab"), eS (Str.ofString "abc"), eS (Str.ofString "abcdefgh"), eS (Str.ofString "abcdefghijklmnopqrstuvwxyz"), eS (Str.ofString "zy")]) S1493 (by show 5 ≤ LIM; decide) (.cons (.str _) (.cons (.str _) (.cons (.str _) (.cons (.str _) (.cons (.str _) .nil))))) S1493.old fun a1497 G1498 H1499 S1500 s1501 f1502 => ?_
    have k1491 := k1491.same s1501
    replace f1502 : Fr H0 G1498 (.ref a1497) ((eL eS) [(Str.ofString "ab"), (Str.ofString "abc"), (Str.ofString "abcdefgh"), (Str.ofString "abcdefghijklmnopqrstuvwxyz"), (Str.ofString "zy")]) := f1502
    refine rd_call ?_
    refine rd_cons ?_
    refine rd_var rfl ?_
    refine rd_cons ?_
    refine rd_c ?_
    refine rd_nil ?_
    obtain ⟨y1503, h1504, h⟩ := bnd h
    refine ⟨a1480, w1489, y1484.2, (5 : Int), rfl, (S1500.get 0 rfl), (k1491.same (S1500.hid1 0 rfl)), y1503, h1504, fun w1508 G1505 H1506 R1507 h1509 k1510 => ?_⟩
    obtain ⟨G1511, S1512, s1513, t1514, l1515⟩ := S1500.ret1 0 rfl R1507 h1509 lst_tup
    have k1510 := l1515 _ _ (k1510.imm (flat_map flI _))
    have f1502 := f1502.same s1513
    have k1491 := k1491.same s1513
    have k1510 := k1510.rp
    have S1512 : Sep [a1480] H0 G1511 H1506 [(a1480, .lst w1508)] := S1512
    obtain ⟨y1516, h1517, h⟩ := bnd h
    obtain ⟨w1518, h1519, k1520⟩ := li f1502
    refine q_ixL (S1512.sub _ _ h1519) k1520 h1517 fun v1521 f1522 => ?_
    cases fr_str f1522
    refine rd_nameS (σ' := [some (.ref a1480), some (.int x_most), some (.int ((1 : Int) + y1484.1)), some (.str y1516), none, none, none, none, none]) rfl ?_
    refine rd_mk ?_
    refine rd_seq ?_
    refine rd_asg ?_
    refine rd_call ?_
    refine rd_cons ?_
    refine rd_var rfl ?_
    refine rd_cons ?_
    refine rd_c ?_
    refine rd_nil ?_
    obtain ⟨y1523, h1524, h⟩ := bnd h
    refine ⟨a1480, w1508, y1503.2, (4 : Int), rfl, (S1512.get 0 rfl), (k1510.same (S1512.hid1 0 rfl)), y1523, h1524, fun w1528 G1525 H1526 R1527 h1529 k1530 => ?_⟩
    obtain ⟨G1531, S1532, s1533, t1534, l1535⟩ := S1512.ret1 0 rfl R1527 h1529 lst_tup
    have k1530 := l1535 _ _ (k1530.imm (flat_map flI _))
    have k1510 := k1510.same s1533
    have k1530 := k1530.rp
    have S1532 : Sep [a1480] H0 G1531 H1526 [(a1480, .lst w1528)] := S1532
    refine rd_nameS (σ' := [some (.ref a1480), some (.int x_most), some (.int ((1 : Int) + y1484.1)), some (.str y1516), some (.int y1523.1), none, none, none, none]) rfl ?_
    refine rd_mk ?_
    refine rd_seq ?_
    refine rd_asg ?_
    refine rd_lstRgZ ?_
    refine rd_rg1 ?_
    refine rd_var rfl ?_
    refine ⟨_, rfl, ?_⟩
    obtain ⟨l1536, h1537, h⟩ := bnd h
    refine q_lrg h1537 ?_
    refine q_newO S1532 fun a1538 H1539 S1540 n1541 => ?_
    have f1542 : FrL H0 G1531 (l1536.map V.int) (l1536.map eI) := (ints_frl l1536)
    refine rd_nameS (σ' := [some (.ref a1480), some (.int x_most), some (.int ((1 : Int) + y1484.1)), some (.str y1516), some (.int y1523.1), some (.ref a1538), none, none, none]) rfl ?_
    refine rd_mk ?_
    refine rd_seq ?_
    refine rd_asg ?_
    refine rd_lstZ ?_
    refine rd_nil ?_
    refine q_lstO S1540 (by show 0 ≤ LIM; decide) fun a1543 H1544 S1545 n1546 => ?_
    have f1547 : FrL H0 G1531 [] (([] : (List (Int × Str))).map (eT2 eI eS)) := .nil
    refine rd_nameS (σ' := [some (.ref a1480), some (.int x_most), some (.int ((1 : Int) + y1484.1)), some (.str y1516), some (.int y1523.1), some (.ref a1538), some (.ref a1543), none, none]) rfl ?_
    refine rd_mk ?_
    refine rd_seq ?_
    refine rd_for ?_
    refine rd_iR1 ?_
    refine rd_cons ?_
    refine rd_var rfl ?_
    refine rd_nil ?_
    obtain ⟨l1548, h1549, h⟩ := bnd h
    refine q_rng1 h1549 ?_
    obtain ⟨r1574, h1575, h⟩ := bnd h
    refine q_forF h1575 (w_rng1 h1549) (fun s1551 σ' H' => ∃ (x1563 : Option V) (x1564 : Option V) (w1565 : List V) (w1567 : List V) (w1569 : List V) (G1559 : Hp), σ' = [some (.ref a1480), some (.int x_most), some (.int ((1 : Int) + y1484.1)), some (.str y1516), some (.int y1523.1), some (.ref a1538), some (.ref a1543), x1563, x1564] ∧ Sep [a1480] H0 G1559 H' [(a1543, .lst w1565), (a1538, .lst w1567), (a1480, .lst w1569)] ∧ Same G1531 G1559 ∧ FrL H0 G1559 w1565 ((s1551.1).map (eT2 eI eS)) ∧ FrL H0 G1559 w1567 ((s1551.2.1).map eI) ∧ FrL E0h G1559 w1569 ((s1551.2.2).map eI)) ?_ ?_ ?_ ?_
    · exact ⟨_, _, [], (l1536.map V.int), w1528, G1531, rfl, S1545, Same.refl _, f1547, f1542, k1530⟩
    · rintro s1551 _ H1560 ⟨x1563, x1564, w1565, w1567, w1569, G1559, rfl, S1561, sE1562, f1566, f1568, f1570⟩
      exact trivial
    · rintro i1552 a1550 s1551 s1553 x1554 _ H1560 H1555 h1556 h ⟨x1563, x1564, w1565, w1567, w1569, G1559, rfl, S1561, sE1562, f1566, f1568, f1570⟩ h1557
      obtain ⟨rfl, e1576⟩ := h1557
      cases e1576 _ h1556
      refine rd_nameS (σ' := [some (.ref a1480), some (.int x_most), some (.int ((1 : Int) + y1484.1)), some (.str y1516), some (.int y1523.1), some (.ref a1538), some (.ref a1543), some (.int a1550), x1564]) rfl ?_
      refine rd_seq ?_
      refine rd_asg ?_
      refine rd_op ?_
      refine rd_var rfl ?_
      refine rd_call ?_
      refine rd_cons ?_
      refine rd_var rfl ?_
      refine rd_cons ?_
      refine rd_cb ?_
      refine rd_cons ?_
      refine rd_var rfl ?_
      refine rd_nil ?_
      obtain ⟨y1577, h1578, h⟩ := bnd h
      refine q_lenS h1578 ?_
      refine rd_nil ?_
      obtain ⟨y1579, h1580, h⟩ := bnd h
      refine ⟨a1480, w1569, s1551.2.2, y1577, rfl, (S1561.get 2 rfl), (f1570.same (S1561.hid1 2 rfl)), y1579, h1580, fun w1584 G1581 H1582 R1583 h1585 k1586 => ?_⟩
      obtain ⟨G1587, S1588, s1589, t1590, l1591⟩ := S1561.ret1 2 rfl R1583 h1585 lst_tup
      have k1586 := l1591 _ _ (k1586.imm (flat_map flI _))
      have f1566 := f1566.same s1589
      have f1568 := f1568.same s1589
      have f1570 := f1570.same s1589
      have sE1562 := sE1562.trans s1589
      have k1586 := k1586.rp
      have S1588 : Sep [a1480] H0 G1587 H1582 [(a1543, .lst w1565), (a1538, .lst w1567), (a1480, .lst w1584)] := S1588
      obtain ⟨y1592, h1593, h⟩ := bnd h
      refine q_ixS h1593 ?_
      refine rd_nameS (σ' := [some (.ref a1480), some (.int x_most), some (.int ((1 : Int) + y1484.1)), some (.str y1516), some (.int y1523.1), some (.ref a1538), some (.ref a1543), some (.int a1550), some (.str y1592)]) rfl ?_
      refine rd_mk ?_
      obtain ⟨r1639, ho1640, h⟩ := bnd h
      refine rd_cut (fun σ' H' => ∃ (w1689 : List V) (G1685 : Hp), σ' = [some (.ref a1480), some (.int x_most), some (.int ((1 : Int) + y1484.1)), some (.str y1516), some (.int y1523.1), some (.ref a1538), some (.ref a1543), some (.int a1550), some (.str r1639.1)] ∧ Sep [a1480] H0 G1685 H' [(a1543, .lst w1565), (a1538, .lst w1567), (a1480, .lst w1689)] ∧ Same G1587 G1685 ∧ FrL E0h G1685 w1689 ((r1639.2).map eI)) ?_ ?_
      ·
        have h := ho1640
        have sE1594 := Same.refl G1587
        refine rd_ifS ?_
        obtain ⟨b1664, h1665, h⟩ := bnd h
        refine rd_ttM (fun k H' => ∃ (w1670 : List V) (G1666 : Hp), k = b1664.1 ∧ Sep [a1480] H0 G1666 H' [(a1543, .lst w1565), (a1538, .lst w1567), (a1480, .lst w1670)] ∧ Same G1587 G1666 ∧ FrL E0h G1666 w1670 ((b1664.2).map eI)) (fun R q => ?_) ?_
        ·
          have sE1641 := Same.refl G1587
          have h := h1665
          refine rd_and ?_
          refine rd_test ?_
          refine rd_op ?_
          refine rd_var rfl ?_
          refine rd_c ?_
          refine q_eqI ?_
          refine rd_bl ?_
          rcases cnd h with ⟨c1672, h⟩ | ⟨c1672, h⟩
          ·
            refine iteY c1672 ?_
            refine rd_and ?_
            refine rd_test ?_
            refine rd_op ?_
            refine rd_var rfl ?_
            refine rd_lstZ ?_
            refine rd_nil ?_
            refine q_lst (F0 := H0) (ds := []) S1588 (by show 0 ≤ LIM; decide) .nil S1588.old fun a1642 G1643 H1644 S1645 s1646 f1647 => ?_
            have f1566 := f1566.same s1646
            have f1568 := f1568.same s1646
            have k1586 := k1586.same s1646
            have sE1641 := sE1641.trans s1646
            replace f1647 : Fr H0 G1643 (.ref a1642) ((eL eA) ([] : (List PyData))) := f1647
            obtain ⟨b1648, h1649, h⟩ := bnd h
            refine q_neD (S1645.rd 0 rfl f1566) (f1647.rp.same S1645.sub) h1649 ?_
            refine rd_bl ?_
            rcases cnd h with ⟨c1673, h⟩ | ⟨c1673, h⟩
            ·
              refine iteY c1673 ?_
              refine rd_test ?_
              refine rd_op ?_
              refine rd_call ?_
              refine rd_cons ?_
              refine rd_var rfl ?_
              refine rd_cons ?_
              refine rd_c ?_
              refine rd_nil ?_
              obtain ⟨y1650, h1651, h⟩ := bnd h
              refine ⟨a1480, w1584, y1579.2, (3 : Int), rfl, (S1645.get 2 rfl), (k1586.same (S1645.hid1 2 rfl)), y1650, h1651, fun w1655 G1652 H1653 R1654 h1656 k1657 => ?_⟩
              obtain ⟨G1658, S1659, s1660, t1661, l1662⟩ := S1645.ret1 2 rfl R1654 h1656 lst_tup
              have k1657 := l1662 _ _ (k1657.imm (flat_map flI _))
              have f1566 := f1566.same s1660
              have f1568 := f1568.same s1660
              have k1586 := k1586.same s1660
              have sE1641 := sE1641.trans s1660
              have k1657 := k1657.rp
              have S1659 : Sep [a1480] H0 G1658 H1653 [(a1543, .lst w1565), (a1538, .lst w1567), (a1480, .lst w1655)] := S1659
              refine rd_c ?_
              refine rd_I0 ?_
              refine rd_bl ?_
              cases h
              exact q _ _ ⟨w1655, G1658, rfl, S1659, sE1641, k1657⟩
            ·
              refine iteN c1673 ?_
              cases h
              exact q _ _ ⟨w1584, G1643, rfl, S1645, sE1641, k1586⟩
          ·
            refine iteN c1672 ?_
            cases h
            exact q _ _ ⟨w1584, G1587, rfl, S1588, sE1641, k1586⟩
        rintro _ H1667 ⟨w1670, G1666, rfl, S1668, s1669, f1671⟩
        have f1566 := f1566.same s1669
        have f1568 := f1568.same s1669
        have sE1594 := sE1594.trans s1669
        rcases cnd h with ⟨c1684, h⟩ | ⟨c1684, h⟩
        ·
          refine iteY c1684 ?_
          refine rd_asg ?_
          refine rd_op ?_
          refine rd_op ?_
          refine rd_var rfl ?_
          refine rd_un ?_
          refine rd_c ?_
          refine rd_U ?_
          obtain ⟨y1674, h1675, h⟩ := bnd h
          refine q_ixL (S1668.get 0 rfl) f1566 h1675 fun v1676 f1677 => ?_
          obtain ⟨a1678, rfl⟩ := fr_tup f1677
          refine rd_c ?_
          obtain ⟨v1679, v1680, h1683, f1681, f1682⟩ := tu2 f1677
          cases fr_int f1681
          cases fr_str f1682
          refine rd_ixT (S1668.sub _ _ h1683) rfl ?_
          refine rd_nameS (σ' := [some (.ref a1480), some (.int x_most), some (.int ((1 : Int) + y1484.1)), some (.str y1516), some (.int y1523.1), some (.ref a1538), some (.ref a1543), some (.int a1550), some (.str y1674.2)]) rfl ?_
          cases h
          exact ⟨w1670, G1666, rfl, S1668, sE1594, f1671⟩
        ·
          refine iteN c1684 ?_
          refine rd_next ?_
          cases h
          exact ⟨w1670, G1666, rfl, S1668, sE1594, f1671⟩
      rintro _ H1686 ⟨w1689, G1685, rfl, S1687, sE1688, f1690⟩
      have f1566 := f1566.same sE1688
      have f1568 := f1568.same sE1688
      have sE1562 := sE1562.trans sE1688
      obtain ⟨r1695, ho1696, h⟩ := bnd h
      refine rd_cut (fun σ' H' => ∃  (G1700 : Hp), σ' = [some (.ref a1480), some (.int x_most), some (.int ((1 : Int) + y1484.1)), some (.str y1516), some (.int y1523.1), some (.ref a1538), some (.ref a1543), some (.int a1550), some (.str r1695)] ∧ Sep [a1480] H0 G1700 H' [(a1543, .lst w1565), (a1538, .lst w1567), (a1480, .lst w1689)] ∧ Same G1685 G1700) ?_ ?_
      ·
        have h := ho1696
        have sE1691 := Same.refl G1685
        refine rd_ifS ?_
        refine rd_test ?_
        refine rd_op ?_
        refine rd_var rfl ?_
        refine rd_c ?_
        refine q_eqI ?_
        refine rd_bl ?_
        rcases cnd h with ⟨c1699, h⟩ | ⟨c1699, h⟩
        ·
          refine iteY c1699 ?_
          refine rd_asg ?_
          refine rd_op ?_
          refine rd_var rfl ?_
          refine rd_cb ?_
          refine rd_cons ?_
          refine rd_op ?_
          refine rd_var rfl ?_
          refine rd_op ?_
          refine rd_var rfl ?_
          refine rd_c ?_
          refine rd_I0 ?_
          refine q_eqI ?_
          refine rd_nil ?_
          refine q_int1 ?_
          obtain ⟨y1697, h1698, h⟩ := bnd h
          refine q_ixS h1698 ?_
          refine rd_nameS (σ' := [some (.ref a1480), some (.int x_most), some (.int ((1 : Int) + y1484.1)), some (.str y1516), some (.int y1523.1), some (.ref a1538), some (.ref a1543), some (.int a1550), some (.str y1697)]) rfl ?_
          cases h
          exact ⟨G1685, rfl, S1687, sE1691⟩
        ·
          refine iteN c1699 ?_
          refine rd_next ?_
          cases h
          exact ⟨G1685, rfl, S1687, sE1691⟩
      rintro _ H1701 ⟨G1700, rfl, S1702, sE1703⟩
      have f1566 := f1566.same sE1703
      have f1568 := f1568.same sE1703
      have f1690 := f1690.same sE1703
      have sE1562 := sE1562.trans sE1703
      refine rd_drop ?_
      refine rd_bm ?_
      refine rd_var rfl ?_
      refine ⟨Or.inl ⟨rfl, _, SqL.of (S1702.get 0 rfl)⟩, ?_⟩
      refine rd_cons ?_
      refine rd_tupZ ?_
      refine rd_cons ?_
      refine rd_bm ?_
      refine rd_var rfl ?_
      refine ⟨Or.inl ⟨rfl, _, SqL.of (S1702.get 1 rfl)⟩, ?_⟩
      refine rd_cons ?_
      refine rd_call ?_
      refine rd_cons ?_
      refine rd_var rfl ?_
      refine rd_cons ?_
      refine rd_cb ?_
      refine rd_cons ?_
      refine rd_var rfl ?_
      refine rd_nil ?_
      refine q_len (S1702.get 1 rfl) f1568 ?_
      refine rd_nil ?_
      obtain ⟨y1704, h1705, h⟩ := bnd h
      refine ⟨a1480, w1689, r1639.2, (lenI s1551.2.1), rfl, (S1702.get 2 rfl), (f1690.same (S1702.hid1 2 rfl)), y1704, h1705, fun w1709 G1706 H1707 R1708 h1710 k1711 => ?_⟩
      obtain ⟨G1712, S1713, s1714, t1715, l1716⟩ := S1702.ret1 2 rfl R1708 h1710 lst_tup
      have k1711 := l1716 _ _ (k1711.imm (flat_map flI _))
      have f1566 := f1566.same s1714
      have f1568 := f1568.same s1714
      have f1690 := f1690.same s1714
      have sE1562 := sE1562.trans s1714
      have k1711 := k1711.rp
      have S1713 : Sep [a1480] H0 G1712 H1707 [(a1543, .lst w1565), (a1538, .lst w1567), (a1480, .lst w1709)] := S1713
      refine rd_nil ?_
      obtain ⟨y1717, h1718, h⟩ := bnd h
      refine q_popAt (x := y1717.1) (r := y1717.2) S1713 1 rfl f1568 h1718 fun v1719 w1720 H1721 S1722 f1723 f1724 => ?_
      have S1722 : Sep [a1480] H0 G1712 H1721 [(a1543, .lst w1565), (a1538, .lst w1720), (a1480, .lst w1709)] := S1722
      cases fr_int f1724
      refine rd_cons ?_
      refine rd_var rfl ?_
      refine rd_nil ?_
      refine q_tup (F0 := H0) (ds := [eI y1717.1, eS r1695]) S1722 (by show 2 ≤ LIM; decide) (.cons (.int _) (.cons (.str _) .nil)) fun a1725 G1726 H1727 S1728 s1729 f1730 => ?_
      have f1566 := f1566.same s1729
      have f1723 := f1723.same s1729
      have k1711 := k1711.same s1729
      have sE1562 := sE1562.trans s1729
      replace f1730 : Fr H0 G1726 (.ref a1725) ((eT2 eI eS) (y1717.1, r1695)) := f1730
      refine rd_nil ?_
      obtain ⟨l1731, h1732, h⟩ := bnd h
      refine q_app S1728 0 rfl f1566 f1730 h1732 fun w1733 H1734 S1735 f1736 => ?_
      have S1735 : Sep [a1480] H0 G1726 H1734 [(a1543, .lst w1733), (a1538, .lst w1720), (a1480, .lst w1709)] := S1735
      cases h
      exact ⟨_, _, w1733, w1720, w1709, G1726, rfl, S1735, sE1562, f1736, f1723, k1711⟩
    rintro _ H1738 ⟨x1741, x1742, w1743, w1745, w1747, G1737, rfl, S1739, sE1740, f1744, f1746, f1748⟩
    refine rd_mk ?_
    refine rd_ret ?_
    refine rd_var rfl ?_
    obtain ⟨G1749, S1750, s1751, f1752⟩ := S1739.fixL 0 rfl (S1739.notms n1546) f1744 n1546
    have f1746 := f1746.same s1751
    have f1748 := f1748.same s1751
    cases h
    exact kq a1543 w1747 _ _ S1750.toRet (S1750.get 1 rfl) f1748 f1752
end
end K77

namespace K77
open PySem L2 LX LQ
section
variable {P : Program} {w : World} {K : PySem.W.Frag} {mg : Str → Option Value} {base : Heap} {a : Ad}
open LQF
def sp__law_leveling_calls (K : PySem.W.Frag) : Sp := fun vs H Q _ => ∃ (a1753 : Addr) (w1754 : List V) (x_bag : (List Int)) (a1755 : Addr) (x_lineup : (List (Int × Str))), vs = [.ref a1753, .ref a1755] ∧ H a1753 = some (.lst w1754) ∧ FrL E0h (hid H [a1753]) w1754 (x_bag.map eI) ∧ Fr E0h (hid H [a1753]) (.ref a1755) ((eL (eT2 eI eS)) x_lineup) ∧ ∃ r, F__law_leveling_calls x_bag x_lineup = some r ∧ ∀ (a : Addr) (u0 : List V) (G H' : Hp), Ret [a1753] H G H' → H' a1753 = some (.lst u0) → FrL E0h G u0 ((r.2).map eI) → Fr H G (.ref a) ((eL eI) (r.1)) → Q (.ref a) H'
theorem ok__law_leveling_calls (T : Txt K mg a) : FnOk P w K mg base CX0 2 a.f__law_leveling_calls a.d__law_leveling_calls ["bag", "lineup"] (sp__law_leveling_calls K) := by
  refine T.F__law_leveling_calls.ok sc__law_leveling_calls (fun vs H Q E h => ?_) (fun cdv A outer s H0 vs Q E hr h => ?_)
  · obtain ⟨a1753, w1754, x_bag, a1755, x_lineup, rfl, _⟩ := h
    rfl
  · obtain ⟨a1753, w1754, x_bag, a1755, x_lineup, rfl, h1756, f1757, f1758, r, h, kq⟩ := h
    have nd := sc__law_leveling_calls.nd
    have hu64 := hr.units
    have hu65 := units65 hr
    refine ⟨_, (pss_cons (ps_setLc (i := 2) (own := [("person", 4), ("color", 5)]) (g := gTup K 2 (gCons (gName 4) (gCons (gName 5) gNil))) rfl nd rfl rfl (sw_true rfl rfl rfl (by decide +kernel)) (kpi_list (K := K) (pv 1)) (blkOk_by (own := [("person", 4), ("color", 5)]) (N := ["bag", "lineup", "found", "more", "person", "color", "k"]) (sc := defScope s__law_leveling_calls) (by decide +kernel)) (fun _ _ _ _ _ => (kpg_tup (K := K) rfl (pgs_cons (pg_name (i := 4) nd rfl (Or.inl rfl)) (pgs_cons (pg_name (i := 5) nd rfl (Or.inl rfl)) pgs_nil)))) (fun _ _ _ _ _ => pts_one (pt_cmpR op_ne (pv 5) (pe_ix (kix_tup (K := K)) (pe_ix (kix_list (K := K)) (pv 1) pe_int (fun _ _ => rfl)) pe_int (fun _ _ => rfl)) (nomark _))) (fun _ _ _ _ _ => (pv 4)))
      (pss_cons (ps_setLc (i := 3) (own := [("k", 6)]) (g := gName 6) (tt := tYes) rfl nd rfl rfl (sw_true rfl rfl rfl (by decide +kernel)) (pi_range1 rfl T.b_range (pa_cons (pe_call (ok__law_draw T) (hr.mono (by decide)) rfl T.g__law_draw T.k__law_draw T.n__law_draw .nil pass0 (pa_cons (pv 0) (pa_cons pe_int pa_nil))) pa_nil)) (blkOk_by (own := [("k", 6)]) (N := ["bag", "lineup", "found", "more", "person", "color", "k"]) (sc := defScope s__law_leveling_calls) (by decide +kernel)) (fun _ _ _ _ _ => (pg_name (i := 6) nd rfl (Or.inl rfl))) (fun _ _ _ _ _ => pts_nil) (fun _ _ _ _ _ => (pe_call (ok__law_draw T) (hr.mono (by decide)) rfl T.g__law_draw T.k__law_draw T.n__law_draw .nil pass0 (pa_cons (pv 0) (pa_cons (pe_callB (klen (K := K)) (by rfl) T.b_len (by decide +kernel) (pa_cons (pv 1) pa_nil)) pa_nil)))))
      (pss_one (ps_ret (pe_op op_cat (pe_op op_cat (pe_op op_cat (pv 2) (pv 3)) (pv 3)) (pe_op op_rep (pe_lst (pa_cons (pe_call (ok__law_draw T) (hr.mono (by decide)) rfl T.g__law_draw T.k__law_draw T.n__law_draw .nil pass0 (pa_cons (pv 0) (pa_cons (pe_callB (klen (K := K)) (by rfl) T.b_len (by decide +kernel) (pa_cons (pv 1) pa_nil)) pa_nil))) pa_nil)) (pe_call (ok__law_draw T) (hr.mono (by decide)) rfl T.g__law_draw T.k__law_draw T.n__law_draw .nil pass0 (pa_cons (pv 0) (pa_cons pe_int pa_nil))))))))), ?_⟩
    unfold F__law_leveling_calls at h
    have S0 := Sep.start1 h1756
    refine rd_seq ?_
    refine rd_asg ?_
    refine rd_lc ?_
    refine rd_iList ?_
    refine rd_var rfl ?_
    obtain ⟨w1759, h1760, k1761⟩ := li f1758
    refine ⟨_, rfl, ⟨_, SqL.of (S0.sub _ _ h1760)⟩, ?_⟩
    intro D1762 h1763
    obtain ⟨l1799, h1800, h⟩ := bnd h
    refine q_lcL (enc := eI) (F0 := H0) h1800 (w_li k1761) S0 h1763 S0.old ?_ ?_ ?_
    · rintro GD1762 HD1762 accD1762 SD1762 sD1762
      exact (SD1762.sub _ _ (sD1762 _ _ h1760))
    · rintro i1765 x1766 a1764 o1775 G1769 H1767 H1768 acc1774 h1772 h S1770 s1771 h1773 T F hT hF
      have f1758 := f1758.same s1771
      have f1757 := f1757.same s1771
      have sT1776 := Same.refl G1769
      obtain ⟨rfl, e1778⟩ := h1773
      have f1779 := (e1778 _ h1772).same s1771
      obtain ⟨a1780, rfl⟩ := fr_tup f1779
      obtain ⟨v1781, v1782, h1785, f1783, f1784⟩ := tu2 f1779
      cases fr_int f1783
      cases fr_str f1784
      refine rd_gtup (S1770.sub _ _ h1785) rfl ?_
      refine rd_gcons ?_
      refine rd_nameS (σ' := [some (.ref a1753), some (.ref a1755), none, none, some (.int a1764.1), none, none]) rfl ?_
      refine rd_gcons ?_
      refine rd_nameS (σ' := [some (.ref a1753), some (.ref a1755), none, none, some (.int a1764.1), some (.str a1764.2), none]) rfl ?_
      refine rd_gnil ?_
      refine ⟨rfl, ?_⟩
      refine rd_test ?_
      refine rd_op ?_
      refine rd_var rfl ?_
      refine rd_op ?_
      refine rd_op ?_
      refine rd_var rfl ?_
      refine rd_c ?_
      obtain ⟨y1786, h1787, h⟩ := bnd h
      obtain ⟨w1788, h1789, k1790⟩ := li f1758
      refine q_ixL (S1770.sub _ _ h1789) k1790 h1787 fun v1791 f1792 => ?_
      obtain ⟨a1793, rfl⟩ := fr_tup f1792
      refine rd_c ?_
      obtain ⟨v1794, v1795, h1798, f1796, f1797⟩ := tu2 f1792
      cases fr_int f1796
      cases fr_str f1797
      refine rd_ixT (S1770.sub _ _ h1798) rfl ?_
      refine q_neS ?_
      refine rd_bl ?_
      rcases cnd h with ⟨c1801, h⟩ | ⟨c1801, h⟩
      ·
        refine iteY c1801 ?_
        refine rd_var rfl ?_
        cases h
        exact hT _ _ _ _ rfl S1770 sT1776 (.int _)
      ·
        refine iteN c1801 ?_
        cases h
        exact hF _ _ rfl S1770 sT1776
    rintro G1802 H1803 w1804 S1805 s1806 f1807 n1808 n1809
    have f1758 := f1758.same s1806
    have f1757 := f1757.same s1806
    obtain ⟨G1810, S1811, s1812, f1813⟩ := S1805.fixF 0 rfl (S1805.notms n1808) f1807 n1809
    have f1758 := f1758.same s1812
    have f1757 := f1757.same s1812
    refine rd_nameS (σ' := [some (.ref a1753), some (.ref a1755), some (.ref D1762), none, none, none, none]) rfl ?_
    refine rd_mk ?_
    refine rd_seq ?_
    refine rd_asg ?_
    refine rd_lc ?_
    refine rd_iR1 ?_
    refine rd_cons ?_
    refine rd_call ?_
    refine rd_cons ?_
    refine rd_var rfl ?_
    refine rd_cons ?_
    refine rd_c ?_
    refine rd_nil ?_
    obtain ⟨y1814, h1815, h⟩ := bnd h
    refine ⟨a1753, w1754, x_bag, (3 : Int), rfl, (S1811.get 0 rfl), (f1757.same (S1811.hid1 0 rfl)), y1814, h1815, fun w1819 G1816 H1817 R1818 h1820 k1821 => ?_⟩
    obtain ⟨G1822, S1823, s1824, t1825, l1826⟩ := S1811.ret1 0 rfl R1818 h1820 lst_tup
    have k1821 := l1826 _ _ (k1821.imm (flat_map flI _))
    have f1758 := f1758.same s1824
    have f1813 := f1813.same s1824
    have f1757 := f1757.same s1824
    have k1821 := k1821.rp
    have S1823 : Sep [a1753] H0 G1822 H1817 [(a1753, .lst w1819)] := S1823
    refine rd_nil ?_
    obtain ⟨l1827, h1828, h⟩ := bnd h
    refine q_rng1 h1828 ?_
    intro D1829 h1830
    have S1877 := S1823
    rw [frl_ints k1821] at S1877
    have f1878 : FrL H0 G1822 ((y1814.2).map V.int) ((y1814.2).map eI) := ints_frl _
    have S1877 : Sep [a1753] H0 G1822 H1817 [(a1753, .lst ((y1814.2).map V.int))] := S1877
    obtain ⟨l1899, h1900, h⟩ := bnd h
    refine q_lcLS (c := fun (s1875 : (List Int)) => ([(a1753, .lst ((s1875).map V.int))] : List (Addr × HO))) (ys := l1899.1) (s1 := l1899.2) (enc := eI) (F0 := H0) h1900 (w_rng1 h1828) S1877 h1830 S1877.old ?_ ?_ ?_
    · rintro svD1829 GD1829 HD1829 accD1829 SD1829 sD1829
      exact trivial
    · rintro i1863 x1864 a1862 s1875 o1873 s1876 G1867 H1865 H1866 acc1872 h1870 h S1868 s1869 h1871 T F hT hF
      have f1758 := f1758.same s1869
      have f1813 := f1813.same s1869
      have S1868 : Sep [a1753] H0 G1867 H1865 [(D1829, .lst acc1872), (a1753, .lst ((s1875).map V.int))] := S1868
      have f1879 : FrL H0 G1867 ((s1875).map V.int) ((s1875).map eI) := ints_frl _
      have sT1874 := Same.refl G1867
      obtain ⟨rfl, e1880⟩ := h1871
      cases e1880 _ h1870
      refine rd_nameS (σ' := [some (.ref a1753), some (.ref a1755), some (.ref D1762), none, none, none, some (.int a1862)]) rfl ?_
      refine ⟨rfl, ?_⟩
      refine rd_tyes ?_
      refine iteY rfl ?_
      refine rd_call ?_
      refine rd_cons ?_
      refine rd_var rfl ?_
      refine rd_cons ?_
      refine rd_cb ?_
      refine rd_cons ?_
      refine rd_var rfl ?_
      refine rd_nil ?_
      obtain ⟨w1881, h1882, k1883⟩ := li f1758
      refine q_len (S1868.sub _ _ h1882) k1883 ?_
      refine rd_nil ?_
      obtain ⟨y1884, h1885, h⟩ := bnd h
      refine ⟨a1753, ((s1875).map V.int), s1875, (lenI x_lineup), rfl, (S1868.get 1 rfl), (f1879.rp.same (S1868.hid1 1 rfl)), y1884, h1885, fun w1889 G1886 H1887 R1888 h1890 k1891 => ?_⟩
      obtain ⟨G1892, S1893, s1894, t1895, l1896⟩ := S1868.ret1 1 rfl R1888 h1890 lst_tup
      have k1891 := l1896 _ _ (k1891.imm (flat_map flI _))
      have f1758 := f1758.same s1894
      have f1813 := f1813.same s1894
      have f1879 := f1879.same s1894
      have sT1874 := sT1874.trans s1894
      have S1893 : Sep [a1753] H0 G1892 H1887 [(D1829, .lst acc1872), (a1753, .lst w1889)] := S1893
      have S1897 := S1893
      rw [frl_ints k1891] at S1897
      have f1898 : FrL H0 G1892 ((y1884.2).map V.int) ((y1884.2).map eI) := ints_frl _
      have S1897 : Sep [a1753] H0 G1892 H1887 [(D1829, .lst acc1872), (a1753, .lst ((y1884.2).map V.int))] := S1897
      cases h
      exact hT _ _ _ _ rfl S1897 sT1874 (.int _)
    rintro G1902 H1903 w1904 S1905 s1906 f1907 n1908 n1909
    have f1758 := f1758.same s1906
    have f1813 := f1813.same s1906
    have f1910 : FrL H0 G1902 ((l1899.2).map V.int) ((l1899.2).map eI) := ints_frl _
    have S1905 : Sep [a1753] H0 G1902 H1903 [(D1829, .lst w1904), (a1753, .lst ((l1899.2).map V.int))] := S1905
    obtain ⟨G1911, S1912, s1913, f1914⟩ := S1905.fixF 0 rfl (S1905.notms n1908) f1907 n1909
    have f1758 := f1758.same s1913
    have f1813 := f1813.same s1913
    have f1910 := f1910.same s1913
    refine rd_nameS (σ' := [some (.ref a1753), some (.ref a1755), some (.ref D1762), some (.ref D1829), none, none, none]) rfl ?_
    refine rd_mk ?_
    refine rd_ret ?_
    refine rd_op ?_
    refine rd_op ?_
    refine rd_op ?_
    refine rd_var rfl ?_
    refine rd_var rfl ?_
    obtain ⟨y1915, h1916, h⟩ := bnd h
    obtain ⟨w1917, h1918, k1919⟩ := li f1813
    obtain ⟨w1920, h1921, k1922⟩ := li f1914
    refine q_cat S1912 (S1912.sub _ _ h1918) k1919 (S1912.sub _ _ h1921) k1922 h1916 S1912.old fun a1923 G1926 H1924 S1925 s1927 f1928 => ?_
    have f1758 := f1758.same s1927
    have f1813 := f1813.same s1927
    have f1914 := f1914.same s1927
    have f1910 := f1910.same s1927
    refine rd_var rfl ?_
    obtain ⟨y1929, h1930, h⟩ := bnd h
    obtain ⟨w1931, h1932, k1933⟩ := li f1928
    obtain ⟨w1934, h1935, k1936⟩ := li f1914
    refine q_cat S1925 (S1925.sub _ _ h1932) k1933 (S1925.sub _ _ h1935) k1936 h1930 S1925.old fun a1937 G1940 H1938 S1939 s1941 f1942 => ?_
    have f1758 := f1758.same s1941
    have f1813 := f1813.same s1941
    have f1914 := f1914.same s1941
    have f1910 := f1910.same s1941
    refine rd_op ?_
    refine rd_lstZ ?_
    refine rd_cons ?_
    refine rd_call ?_
    refine rd_cons ?_
    refine rd_var rfl ?_
    refine rd_cons ?_
    refine rd_cb ?_
    refine rd_cons ?_
    refine rd_var rfl ?_
    refine rd_nil ?_
    obtain ⟨w1943, h1944, k1945⟩ := li f1758
    refine q_len (S1939.sub _ _ h1944) k1945 ?_
    refine rd_nil ?_
    obtain ⟨y1946, h1947, h⟩ := bnd h
    refine ⟨a1753, ((l1899.2).map V.int), l1899.2, (lenI x_lineup), rfl, (S1939.get 0 rfl), (f1910.rp.same (S1939.hid1 0 rfl)), y1946, h1947, fun w1951 G1948 H1949 R1950 h1952 k1953 => ?_⟩
    obtain ⟨G1954, S1955, s1956, t1957, l1958⟩ := S1939.ret1 0 rfl R1950 h1952 lst_tup
    have k1953 := l1958 _ _ (k1953.imm (flat_map flI _))
    have f1758 := f1758.same s1956
    have f1813 := f1813.same s1956
    have f1914 := f1914.same s1956
    have f1942 := f1942.same s1956
    have f1910 := f1910.same s1956
    have S1955 : Sep [a1753] H0 G1954 H1949 [(a1753, .lst w1951)] := S1955
    refine rd_nil ?_
    refine q_lst (F0 := H0) (ds := [eI y1946.1]) S1955 (by show 1 ≤ LIM; decide) (.cons (.int _) .nil) S1955.old fun a1959 G1960 H1961 S1962 s1963 f1964 => ?_
    have f1758 := f1758.same s1963
    have f1813 := f1813.same s1963
    have f1914 := f1914.same s1963
    have f1942 := f1942.same s1963
    have k1953 := k1953.same s1963
    replace f1964 : Fr H0 G1960 (.ref a1959) ((eL eI) [y1946.1]) := f1964
    refine rd_call ?_
    refine rd_cons ?_
    refine rd_var rfl ?_
    refine rd_cons ?_
    refine rd_c ?_
    refine rd_nil ?_
    obtain ⟨y1965, h1966, h⟩ := bnd h
    refine ⟨a1753, w1951, y1946.2, (3 : Int), rfl, (S1962.get 0 rfl), (k1953.rp.same (S1962.hid1 0 rfl)), y1965, h1966, fun w1970 G1967 H1968 R1969 h1971 k1972 => ?_⟩
    obtain ⟨G1973, S1974, s1975, t1976, l1977⟩ := S1962.ret1 0 rfl R1969 h1971 lst_tup
    have k1972 := l1977 _ _ (k1972.imm (flat_map flI _))
    have f1758 := f1758.same s1975
    have f1813 := f1813.same s1975
    have f1914 := f1914.same s1975
    have f1942 := f1942.same s1975
    have f1964 := f1964.same s1975
    have k1953 := k1953.same s1975
    have S1974 : Sep [a1753] H0 G1973 H1968 [(a1753, .lst w1970)] := S1974
    obtain ⟨y1978, h1979, h⟩ := bnd h
    obtain ⟨w1980, h1981, k1982⟩ := li f1964
    refine q_rep S1974 (S1974.sub _ _ h1981) k1982 h1979 S1974.old fun a1983 G1986 H1984 S1985 s1987 f1988 => ?_
    have f1758 := f1758.same s1987
    have f1813 := f1813.same s1987
    have f1914 := f1914.same s1987
    have f1942 := f1942.same s1987
    have k1972 := k1972.same s1987
    obtain ⟨y1989, h1990, h⟩ := bnd h
    obtain ⟨w1991, h1992, k1993⟩ := li f1942
    obtain ⟨w1994, h1995, k1996⟩ := li f1988
    refine q_cat S1985 (S1985.sub _ _ h1992) k1993 (S1985.sub _ _ h1995) k1996 h1990 S1985.old fun a1997 G2000 H1998 S1999 s2001 f2002 => ?_
    have f1758 := f1758.same s2001
    have f1813 := f1813.same s2001
    have f1914 := f1914.same s2001
    have k1972 := k1972.same s2001
    cases h
    exact kq a1997 w1970 _ _ S1999.toRet (S1999.get 0 rfl) k1972.rp f2002
end
end K77

namespace K77
open PySem L2 LX LQ
section
variable {P : Program} {w : World} {K : PySem.W.Frag} {mg : Str → Option Value} {base : Heap} {a : Ad}
open LQF
def sp__law_calls (K : PySem.W.Frag) : Sp := fun vs H Q _ => ∃ (a2003 : Addr) (w2004 : List V) (x_bag : (List Int)) (x_size : Int) (x_most : Int), vs = [.ref a2003, (.int x_size), (.int x_most)] ∧ H a2003 = some (.lst w2004) ∧ FrL E0h (hid H [a2003]) w2004 (x_bag.map eI) ∧ ∃ r, F__law_calls x_bag x_size x_most = some r ∧ ∀ (a : Addr) (u0 : List V) (G H' : Hp), Ret [a2003] H G H' → H' a2003 = some (.lst u0) → FrL E0h G u0 ((r.2).map eI) → Fr H G (.ref a) ((eL eI) (r.1)) → Q (.ref a) H'
theorem ok__law_calls (T : Txt K mg a) : FnOk P w K mg base CX0 2 a.f__law_calls a.d__law_calls ["bag", "size", "most"] (sp__law_calls K) := by
  refine T.F__law_calls.ok sc__law_calls (fun vs H Q E h => ?_) (fun cdv A outer s H0 vs Q E hr h => ?_)
  · obtain ⟨a2003, w2004, x_bag, x_size, x_most, rfl, _⟩ := h
    rfl
  · obtain ⟨a2003, w2004, x_bag, x_size, x_most, rfl, h2005, f2006, r, h, kq⟩ := h
    have nd := sc__law_calls.nd
    have hu64 := hr.units
    have hu65 := units65 hr
    refine ⟨_, (pss_cons (ps_set (i := 3) nd rfl (Or.inl rfl) (pe_call (ok__law_draw T) (hr.mono (by decide)) rfl T.g__law_draw T.k__law_draw T.n__law_draw .nil pass0 (pa_cons (pv 0) (pa_cons pe_int pa_nil))))
      (pss_cons (ps_set (i := 4) nd rfl (Or.inl rfl) (pe_ix (kix_list (K := K)) (pe_lst (pa_cons (pv 1) (pa_cons (pe_callB (kmin2 rfl) (by rfl) T.b_min (by decide +kernel) (pa_cons (pv 1) (pa_cons pe_int pa_nil))) (pa_cons (pv 1) (pa_cons (pv 1) pa_nil))))) (pv 3) (fun _ _ => rfl)))
      (pss_cons (ps_set (i := 5) nd rfl (Or.inl rfl) (pe_call (ok__law_draw T) (hr.mono (by decide)) rfl T.g__law_draw T.k__law_draw T.n__law_draw .nil pass0 (pa_cons (pv 0) (pa_cons (pv 1) pa_nil))))
      (pss_cons (ps_set (i := 6) nd rfl (Or.inl rfl) (pe_lst pa_nil))
      (pss_cons (ps_for PassesOwn.never rfl (pi_range1 rfl T.b_range (pa_cons (pe_call (ok__law_draw T) (hr.mono (by decide)) rfl T.g__law_draw T.k__law_draw T.n__law_draw .nil pass0 (pa_cons (pv 0) (pa_cons (pe_op op_add (pv 2) pe_int) pa_nil))) pa_nil)) (pg_name (i := 7) nd rfl (Or.inl rfl)) (pss_cons (ps_set (i := 8) nd rfl (Or.inl rfl) (pe_op op_mod (pe_op op_add (pv 5) (pe_ix (kix_list (K := K)) (pe_lst (pa_cons (pe_call (ok__law_draw T) (hr.mono (by decide)) rfl T.g__law_draw T.k__law_draw T.n__law_draw .nil pass0 (pa_cons (pv 0) (pa_cons (pv 4) pa_nil))) (pa_cons (pv 7) pa_nil))) (pe_callTy kint1 (by rfl) T.b_int (by decide +kernel) (pa_cons (pe_cmpR op_eq (pv 3) pe_int (nomark _)) pa_nil)) (fun _ _ => rfl))) (pv 1)))
      (pss_one (ps_expr (kbm (K := K) PySem.F.plainAttrs_list PySem.F.slot_list_extend PySem.F.type_list_extend mt_extend (pv 6) (pa_cons (pe_op op_rep (pe_lst (pa_cons (pv 8) pa_nil)) (pe_op op_add pe_int (pe_op op_mulW (pe_ix (kix_list (K := K)) (pe_lst (pa_cons pe_int (pa_cons pe_int (pa_cons pe_int (pa_cons pe_int pa_nil))))) (pe_call (ok__law_draw T) (hr.mono (by decide)) rfl T.g__law_draw T.k__law_draw T.n__law_draw .nil pass0 (pa_cons (pv 0) (pa_cons pe_int pa_nil))) (fun _ _ => rfl)) (pe_callTy kint1 (by rfl) T.b_int (by decide +kernel) (pa_cons (pe_cmpR op_eq (pv 3) pe_int (nomark _)) pa_nil))))) pa_nil))))))
      (pss_one (ps_ret (pe_slice (ksl_list (K := K)) (pv 6) po_none (po_some (pv 2)))))))))), ?_⟩
    unfold F__law_calls at h
    have S0 := Sep.start1 h2005
    refine rd_seq ?_
    refine rd_asg ?_
    refine rd_call ?_
    refine rd_cons ?_
    refine rd_var rfl ?_
    refine rd_cons ?_
    refine rd_c ?_
    refine rd_nil ?_
    obtain ⟨y2007, h2008, h⟩ := bnd h
    refine ⟨a2003, w2004, x_bag, (4 : Int), rfl, (S0.get 0 rfl), (f2006.same (S0.hid1 0 rfl)), y2007, h2008, fun w2012 G2009 H2010 R2011 h2013 k2014 => ?_⟩
    obtain ⟨G2015, S2016, s2017, t2018, l2019⟩ := S0.ret1 0 rfl R2011 h2013 lst_tup
    have k2014 := l2019 _ _ (k2014.imm (flat_map flI _))
    have f2006 := f2006.same s2017
    have k2014 := k2014.rp
    have S2016 : Sep [a2003] H0 G2015 H2010 [(a2003, .lst w2012)] := S2016
    refine rd_nameS (σ' := [some (.ref a2003), some (.int x_size), some (.int x_most), some (.int y2007.1), none, none, none, none, none]) rfl ?_
    refine rd_mk ?_
    refine rd_seq ?_
    refine rd_asg ?_
    refine rd_op ?_
    refine rd_lstZ ?_
    refine rd_cons ?_
    refine rd_var rfl ?_
    refine rd_cons ?_
    refine rd_cb ?_
    refine rd_cons ?_
    refine rd_var rfl ?_
    refine rd_cons ?_
    refine rd_c ?_
    refine rd_nil ?_
    refine q_min2 ?_
    refine rd_cons ?_
    refine rd_var rfl ?_
    refine rd_cons ?_
    refine rd_var rfl ?_
    refine rd_nil ?_
    refine q_lst (F0 := H0) (ds := [eI x_size, eI (minI x_size (3 : Int)), eI x_size, eI x_size]) S2016 (by show 4 ≤ LIM; decide) (.cons (.int _) (.cons (.int _) (.cons (.int _) (.cons (.int _) .nil)))) S2016.old fun a2020 G2021 H2022 S2023 s2024 f2025 => ?_
    have k2014 := k2014.same s2024
    replace f2025 : Fr H0 G2021 (.ref a2020) ((eL eI) [x_size, (minI x_size (3 : Int)), x_size, x_size]) := f2025
    refine rd_var rfl ?_
    obtain ⟨y2026, h2027, h⟩ := bnd h
    obtain ⟨w2028, h2029, k2030⟩ := li f2025
    refine q_ixL (S2023.sub _ _ h2029) k2030 h2027 fun v2031 f2032 => ?_
    cases fr_int f2032
    refine rd_nameS (σ' := [some (.ref a2003), some (.int x_size), some (.int x_most), some (.int y2007.1), some (.int y2026), none, none, none, none]) rfl ?_
    refine rd_mk ?_
    refine rd_seq ?_
    refine rd_asg ?_
    refine rd_call ?_
    refine rd_cons ?_
    refine rd_var rfl ?_
    refine rd_cons ?_
    refine rd_var rfl ?_
    refine rd_nil ?_
    obtain ⟨y2033, h2034, h⟩ := bnd h
    refine ⟨a2003, w2012, y2007.2, x_size, rfl, (S2023.get 0 rfl), (k2014.same (S2023.hid1 0 rfl)), y2033, h2034, fun w2038 G2035 H2036 R2037 h2039 k2040 => ?_⟩
    obtain ⟨G2041, S2042, s2043, t2044, l2045⟩ := S2023.ret1 0 rfl R2037 h2039 lst_tup
    have k2040 := l2045 _ _ (k2040.imm (flat_map flI _))
    have k2014 := k2014.same s2043
    have k2040 := k2040.rp
    have S2042 : Sep [a2003] H0 G2041 H2036 [(a2003, .lst w2038)] := S2042
    refine rd_nameS (σ' := [some (.ref a2003), some (.int x_size), some (.int x_most), some (.int y2007.1), some (.int y2026), some (.int y2033.1), none, none, none]) rfl ?_
    refine rd_mk ?_
    refine rd_seq ?_
    refine rd_asg ?_
    refine rd_lstZ ?_
    refine rd_nil ?_
    refine q_lstO S2042 (by show 0 ≤ LIM; decide) fun a2046 H2047 S2048 n2049 => ?_
    have f2050 : FrL H0 G2041 [] (([] : (List Int)).map eI) := .nil
    refine rd_nameS (σ' := [some (.ref a2003), some (.int x_size), some (.int x_most), some (.int y2007.1), some (.int y2026), some (.int y2033.1), some (.ref a2046), none, none]) rfl ?_
    refine rd_mk ?_
    refine rd_seq ?_
    refine rd_for ?_
    refine rd_iR1 ?_
    refine rd_cons ?_
    refine rd_call ?_
    refine rd_cons ?_
    refine rd_var rfl ?_
    refine rd_cons ?_
    refine rd_op ?_
    refine rd_var rfl ?_
    refine rd_c ?_
    refine rd_I0 ?_
    refine rd_nil ?_
    obtain ⟨y2051, h2052, h⟩ := bnd h
    refine ⟨a2003, w2038, y2033.2, (x_most + (1 : Int)), rfl, (S2048.get 1 rfl), (k2040.same (S2048.hid1 1 rfl)), y2051, h2052, fun w2056 G2053 H2054 R2055 h2057 k2058 => ?_⟩
    obtain ⟨G2059, S2060, s2061, t2062, l2063⟩ := S2048.ret1 1 rfl R2055 h2057 lst_tup
    have k2058 := l2063 _ _ (k2058.imm (flat_map flI _))
    have f2050 := f2050.same s2061
    have k2040 := k2040.same s2061
    have k2058 := k2058.rp
    have S2060 : Sep [a2003] H0 G2059 H2054 [(a2046, .lst []), (a2003, .lst w2056)] := S2060
    refine rd_nil ?_
    obtain ⟨l2064, h2065, h⟩ := bnd h
    refine q_rng1 h2065 ?_
    obtain ⟨r2088, h2089, h⟩ := bnd h
    refine q_forF h2089 (w_rng1 h2065) (fun s2067 σ' H' => ∃ (x2079 : Option V) (x2080 : Option V) (w2081 : List V) (w2083 : List V) (G2075 : Hp), σ' = [some (.ref a2003), some (.int x_size), some (.int x_most), some (.int y2007.1), some (.int y2026), some (.int y2033.1), some (.ref a2046), x2079, x2080] ∧ Sep [a2003] H0 G2075 H' [(a2046, .lst w2081), (a2003, .lst w2083)] ∧ Same G2059 G2075 ∧ FrL H0 G2075 w2081 ((s2067.1).map eI) ∧ FrL E0h G2075 w2083 ((s2067.2).map eI)) ?_ ?_ ?_ ?_
    · exact ⟨_, _, [], w2056, G2059, rfl, S2060, Same.refl _, f2050, k2058⟩
    · rintro s2067 _ H2076 ⟨x2079, x2080, w2081, w2083, G2075, rfl, S2077, sE2078, f2082, f2084⟩
      exact trivial
    · rintro i2068 a2066 s2067 s2069 x2070 _ H2076 H2071 h2072 h ⟨x2079, x2080, w2081, w2083, G2075, rfl, S2077, sE2078, f2082, f2084⟩ h2073
      obtain ⟨rfl, e2090⟩ := h2073
      cases e2090 _ h2072
      refine rd_nameS (σ' := [some (.ref a2003), some (.int x_size), some (.int x_most), some (.int y2007.1), some (.int y2026), some (.int y2033.1), some (.ref a2046), some (.int a2066), x2080]) rfl ?_
      refine rd_seq ?_
      refine rd_asg ?_
      refine rd_op ?_
      refine rd_op ?_
      refine rd_var rfl ?_
      refine rd_op ?_
      refine rd_lstZ ?_
      refine rd_cons ?_
      refine rd_call ?_
      refine rd_cons ?_
      refine rd_var rfl ?_
      refine rd_cons ?_
      refine rd_var rfl ?_
      refine rd_nil ?_
      obtain ⟨y2091, h2092, h⟩ := bnd h
      refine ⟨a2003, w2083, s2067.2, y2026, rfl, (S2077.get 1 rfl), (f2084.same (S2077.hid1 1 rfl)), y2091, h2092, fun w2096 G2093 H2094 R2095 h2097 k2098 => ?_⟩
      obtain ⟨G2099, S2100, s2101, t2102, l2103⟩ := S2077.ret1 1 rfl R2095 h2097 lst_tup
      have k2098 := l2103 _ _ (k2098.imm (flat_map flI _))
      have f2082 := f2082.same s2101
      have f2084 := f2084.same s2101
      have sE2078 := sE2078.trans s2101
      have k2098 := k2098.rp
      have S2100 : Sep [a2003] H0 G2099 H2094 [(a2046, .lst w2081), (a2003, .lst w2096)] := S2100
      refine rd_cons ?_
      refine rd_var rfl ?_
      refine rd_nil ?_
      refine q_lst (F0 := H0) (ds := [eI y2091.1, eI a2066]) S2100 (by show 2 ≤ LIM; decide) (.cons (.int _) (.cons (.int _) .nil)) S2100.old fun a2104 G2105 H2106 S2107 s2108 f2109 => ?_
      have f2082 := f2082.same s2108
      have k2098 := k2098.same s2108
      have sE2078 := sE2078.trans s2108
      replace f2109 : Fr H0 G2105 (.ref a2104) ((eL eI) [y2091.1, a2066]) := f2109
      refine rd_cb ?_
      refine rd_cons ?_
      refine rd_op ?_
      refine rd_var rfl ?_
      refine rd_c ?_
      refine q_eqI ?_
      refine rd_nil ?_
      refine q_int1 ?_
      obtain ⟨y2110, h2111, h⟩ := bnd h
      obtain ⟨w2112, h2113, k2114⟩ := li f2109
      refine q_ixL (S2107.sub _ _ h2113) k2114 h2111 fun v2115 f2116 => ?_
      cases fr_int f2116
      refine rd_I0 ?_
      refine rd_var rfl ?_
      obtain ⟨y2117, h2118, h⟩ := bnd h
      refine q_mod h2118 ?_
      refine rd_nameS (σ' := [some (.ref a2003), some (.int x_size), some (.int x_most), some (.int y2007.1), some (.int y2026), some (.int y2033.1), some (.ref a2046), some (.int a2066), some (.int y2117)]) rfl ?_
      refine rd_mk ?_
      refine rd_drop ?_
      refine rd_bm ?_
      refine rd_var rfl ?_
      refine ⟨Or.inl ⟨rfl, _, SqL.of (S2107.get 0 rfl)⟩, ?_⟩
      refine rd_cons ?_
      refine rd_op ?_
      refine rd_lstZ ?_
      refine rd_cons ?_
      refine rd_var rfl ?_
      refine rd_nil ?_
      refine q_lst (F0 := H0) (ds := [eI y2117]) S2107 (by show 1 ≤ LIM; decide) (.cons (.int _) .nil) S2107.old fun a2119 G2120 H2121 S2122 s2123 f2124 => ?_
      have f2082 := f2082.same s2123
      have k2098 := k2098.same s2123
      have sE2078 := sE2078.trans s2123
      replace f2124 : Fr H0 G2120 (.ref a2119) ((eL eI) [y2117]) := f2124
      refine rd_op ?_
      refine rd_c ?_
      refine rd_op ?_
      refine rd_op ?_
      refine rd_lstZ ?_
      refine rd_cons ?_
      refine rd_c ?_
      refine rd_cons ?_
      refine rd_c ?_
      refine rd_cons ?_
      refine rd_c ?_
      refine rd_cons ?_
      refine rd_c ?_
      refine rd_nil ?_
      refine q_lst (F0 := H0) (ds := [eI (0 : Int), eI (0 : Int), eI (1 : Int), eI (2 : Int)]) S2122 (by show 4 ≤ LIM; decide) (.cons (.int _) (.cons (.int _) (.cons (.int _) (.cons (.int _) .nil)))) S2122.old fun a2125 G2126 H2127 S2128 s2129 f2130 => ?_
      have f2124 := f2124.same s2129
      have f2082 := f2082.same s2129
      have k2098 := k2098.same s2129
      have sE2078 := sE2078.trans s2129
      replace f2130 : Fr H0 G2126 (.ref a2125) ((eL eI) [(0 : Int), (0 : Int), (1 : Int), (2 : Int)]) := f2130
      refine rd_call ?_
      refine rd_cons ?_
      refine rd_var rfl ?_
      refine rd_cons ?_
      refine rd_c ?_
      refine rd_nil ?_
      obtain ⟨y2131, h2132, h⟩ := bnd h
      refine ⟨a2003, w2096, y2091.2, (4 : Int), rfl, (S2128.get 1 rfl), (k2098.same (S2128.hid1 1 rfl)), y2131, h2132, fun w2136 G2133 H2134 R2135 h2137 k2138 => ?_⟩
      obtain ⟨G2139, S2140, s2141, t2142, l2143⟩ := S2128.ret1 1 rfl R2135 h2137 lst_tup
      have k2138 := l2143 _ _ (k2138.imm (flat_map flI _))
      have f2124 := f2124.same s2141
      have f2130 := f2130.same s2141
      have f2082 := f2082.same s2141
      have k2098 := k2098.same s2141
      have sE2078 := sE2078.trans s2141
      have k2138 := k2138.rp
      have S2140 : Sep [a2003] H0 G2139 H2134 [(a2046, .lst w2081), (a2003, .lst w2136)] := S2140
      obtain ⟨y2144, h2145, h⟩ := bnd h
      obtain ⟨w2146, h2147, k2148⟩ := li f2130
      refine q_ixL (S2140.sub _ _ h2147) k2148 h2145 fun v2149 f2150 => ?_
      cases fr_int f2150
      refine rd_cb ?_
      refine rd_cons ?_
      refine rd_op ?_
      refine rd_var rfl ?_
      refine rd_c ?_
      refine q_eqI ?_
      refine rd_nil ?_
      refine q_int1 ?_
      obtain ⟨y2151, h2152, h⟩ := bnd h
      refine q_mulW h2152 ?_
      refine rd_I0 ?_
      obtain ⟨y2153, h2154, h⟩ := bnd h
      obtain ⟨w2155, h2156, k2157⟩ := li f2124
      refine q_rep S2140 (S2140.sub _ _ h2156) k2157 h2154 S2140.old fun a2158 G2161 H2159 S2160 s2162 f2163 => ?_
      have f2082 := f2082.same s2162
      have k2138 := k2138.same s2162
      have sE2078 := sE2078.trans s2162
      refine rd_nil ?_
      obtain ⟨w2164, h2165, k2166⟩ := li f2163
      obtain ⟨l2167, h2168, h⟩ := bnd h
      refine q_ext S2160 0 rfl f2082 (S2160.sub _ _ h2165) k2166 h2168 fun w2169 H2170 S2171 f2172 => ?_
      have S2171 : Sep [a2003] H0 G2161 H2170 [(a2046, .lst w2169), (a2003, .lst w2136)] := S2171
      cases h
      exact ⟨_, _, w2169, w2136, G2161, rfl, S2171, sE2078, f2172, k2138⟩
    rintro _ H2174 ⟨x2177, x2178, w2179, w2181, G2173, rfl, S2175, sE2176, f2180, f2182⟩
    refine rd_mk ?_
    refine rd_ret ?_
    refine rd_sl ?_
    refine rd_var rfl ?_
    refine rd_nopart ?_
    refine rd_part ?_
    refine rd_var rfl ?_
    refine rd_int ?_
    refine q_slL S2175 (S2175.get 0 rfl) f2180 S2175.old fun a2183 G2186 H2184 S2185 s2187 f2188 => ?_
    have f2180 := f2180.same s2187
    have f2182 := f2182.same s2187
    cases h
    exact kq a2183 w2181 _ _ S2185.toRet (S2185.get 1 rfl) f2182 f2188
end
end K77

namespace K77
open PySem L2 LX LQ
section
variable {P : Program} {w : World} {K : PySem.W.Frag} {mg : Str → Option Value} {base : Heap} {a : Ad}
open LQF
def sp__law_called (K : PySem.W.Frag) : Sp := fun vs H Q _ => ∃ (a2189 : Addr) (x_lineup : (List (Int × Str))) (x_person : Int), vs = [.ref a2189, (.int x_person)] ∧ Fr E0h H (.ref a2189) ((eL (eT2 eI eS)) x_lineup) ∧ ∃ r, F__law_called x_lineup x_person = some r ∧ ∀ (a : Addr) (G H' : Hp), Ret [] H G H' → Fr H G (.ref a) ((eL (eT2 eI eS)) (r)) → Q (.ref a) H'
theorem ok__law_called (T : Txt K mg a) : FnOk P w K mg base CX0 1 a.f__law_called a.d__law_called ["lineup", "person"] (sp__law_called K) := by
  refine T.F__law_called.ok sc__law_called (fun vs H Q E h => ?_) (fun cdv A outer s H0 vs Q E hr h => ?_)
  · obtain ⟨a2189, x_lineup, x_person, rfl, _⟩ := h
    rfl
  · obtain ⟨a2189, x_lineup, x_person, rfl, f2190, r, h, kq⟩ := h
    have nd := sc__law_called.nd
    have hu64 := hr.units
    have hu65 := units65 hr
    refine ⟨_, (pss_cons (ps_set (i := 2) nd rfl (Or.inr rfl) (pe_ix (kix_list (K := K)) (pe_lc (own := [("one", 5), ("color", 6)]) (g := gTup K 2 (gCons (gName 5) (gCons (gName 6) gNil))) rfl nd (kpi_list (K := K) (pv 0)) (blkOk_by (own := [("one", 5), ("color", 6)]) (N := ["lineup", "person", "own", "others", "new", "one", "color", "pair"]) (sc := defScope s__law_called) (by decide +kernel)) (fun _ _ _ _ _ => (kpg_tup (K := K) rfl (pgs_cons (pg_name (i := 5) nd rfl (Or.inl rfl)) (pgs_cons (pg_name (i := 6) nd rfl (Or.inl rfl)) pgs_nil)))) (fun _ _ _ _ _ => pts_one (pt_cmpR op_eq (pv 5) (pv 1) (nomark _))) (fun _ _ _ _ _ => (pv 6))) pe_int (fun _ _ => rfl)))
      (pss_cons (ps_setLc (i := 3) (own := [("one", 5), ("color", 6)]) (g := gTup K 2 (gCons (gName 5) (gCons (gName 6) gNil))) rfl nd rfl rfl (sw_true rfl rfl rfl (by decide +kernel)) (kpi_list (K := K) (pv 0)) (blkOk_by (own := [("one", 5), ("color", 6)]) (N := ["lineup", "person", "own", "others", "new", "one", "color", "pair"]) (sc := defScope s__law_called) (by decide +kernel)) (fun _ _ _ _ _ => (kpg_tup (K := K) rfl (pgs_cons (pg_name (i := 5) nd rfl (Or.inl rfl)) (pgs_cons (pg_name (i := 6) nd rfl (Or.inl rfl)) pgs_nil)))) (fun _ _ _ _ _ => pts_one (pt_cmpR op_ne (pv 6) (pv 2) (nomark _))) (fun _ _ _ _ _ => (pv 6)))
      (pss_cons (ps_set (i := 4) nd rfl (Or.inl rfl) (pe_ifExp (pt_cmpR (kneD (K := K) hu64) (pv 3) (pe_lst pa_nil) (nomark _)) (pe_ix (kix_list (K := K)) (pv 3) pe_int (fun _ _ => rfl)) (pv 2)))
      (pss_one (ps_ret (pe_op op_cat (pe_lst (pa_cons (pe_tup (pa_cons (pv 1) (pa_cons (pv 4) pa_nil))) pa_nil)) (pe_lc (own := [("pair", 7)]) (g := gName 7) rfl nd (kpi_list (K := K) (pv 0)) (blkOk_by (own := [("pair", 7)]) (N := ["lineup", "person", "own", "others", "new", "one", "color", "pair"]) (sc := defScope s__law_called) (by decide +kernel)) (fun _ _ _ _ _ => (pg_name (i := 7) nd rfl (Or.inl rfl))) (fun _ _ _ _ _ => pts_one (pt_cmpR op_ne (pe_ix (kix_tup (K := K)) (pv 7) pe_int (fun _ _ => rfl)) (pv 1) (nomark _))) (fun _ _ _ _ _ => (pv 7))))))))), ?_⟩
    unfold F__law_called at h
    have S0 := Sep.start H0
    refine rd_seq ?_
    refine rd_asg ?_
    refine rd_op ?_
    refine rd_lc ?_
    refine rd_iList ?_
    refine rd_var rfl ?_
    obtain ⟨w2191, h2192, k2193⟩ := li f2190
    refine ⟨_, rfl, ⟨_, SqL.of (S0.sub _ _ h2192)⟩, ?_⟩
    intro D2194 h2195
    obtain ⟨l2218, h2219, h⟩ := bnd h
    refine q_lcL (enc := eS) (F0 := H0) h2219 (w_li k2193) S0 h2195 S0.old ?_ ?_ ?_
    · rintro GD2194 HD2194 accD2194 SD2194 sD2194
      exact (SD2194.sub _ _ (sD2194 _ _ h2192))
    · rintro i2197 x2198 a2196 o2207 G2201 H2199 H2200 acc2206 h2204 h S2202 s2203 h2205 T F hT hF
      have f2190 := f2190.same s2203
      have sT2208 := Same.refl G2201
      obtain ⟨rfl, e2210⟩ := h2205
      have f2211 := (e2210 _ h2204).same s2203
      obtain ⟨a2212, rfl⟩ := fr_tup f2211
      obtain ⟨v2213, v2214, h2217, f2215, f2216⟩ := tu2 f2211
      cases fr_int f2215
      cases fr_str f2216
      refine rd_gtup (S2202.sub _ _ h2217) rfl ?_
      refine rd_gcons ?_
      refine rd_nameS (σ' := [some (.ref a2189), some (.int x_person), none, none, none, some (.int a2196.1), none, none]) rfl ?_
      refine rd_gcons ?_
      refine rd_nameS (σ' := [some (.ref a2189), some (.int x_person), none, none, none, some (.int a2196.1), some (.str a2196.2), none]) rfl ?_
      refine rd_gnil ?_
      refine ⟨rfl, ?_⟩
      refine rd_test ?_
      refine rd_op ?_
      refine rd_var rfl ?_
      refine rd_var rfl ?_
      refine q_eqI ?_
      refine rd_bl ?_
      rcases cnd h with ⟨c2220, h⟩ | ⟨c2220, h⟩
      ·
        refine iteY c2220 ?_
        refine rd_var rfl ?_
        cases h
        exact hT _ _ _ _ rfl S2202 sT2208 (.str _)
      ·
        refine iteN c2220 ?_
        cases h
        exact hF _ _ rfl S2202 sT2208
    rintro G2221 H2222 w2223 S2224 s2225 f2226 n2227 n2228
    have f2190 := f2190.same s2225
    obtain ⟨G2229, S2230, s2231, f2232⟩ := S2224.fixF 0 rfl (by simp) f2226 n2228
    have f2190 := f2190.same s2231
    refine rd_c ?_
    obtain ⟨y2233, h2234, h⟩ := bnd h
    obtain ⟨w2235, h2236, k2237⟩ := li f2232
    refine q_ixL (S2230.sub _ _ h2236) k2237 h2234 fun v2238 f2239 => ?_
    cases fr_str f2239
    refine rd_nameS (σ' := [some (.ref a2189), some (.int x_person), some (.str y2233), none, none, none, none, none]) rfl ?_
    refine rd_mk ?_
    refine rd_seq ?_
    refine rd_asg ?_
    refine rd_lc ?_
    refine rd_iList ?_
    refine rd_var rfl ?_
    obtain ⟨w2240, h2241, k2242⟩ := li f2190
    refine ⟨_, rfl, ⟨_, SqL.of (S2230.sub _ _ h2241)⟩, ?_⟩
    intro D2243 h2244
    obtain ⟨l2267, h2268, h⟩ := bnd h
    refine q_lcL (enc := eS) (F0 := H0) h2268 (w_li k2242) S2230 h2244 S2230.old ?_ ?_ ?_
    · rintro GD2243 HD2243 accD2243 SD2243 sD2243
      exact (SD2243.sub _ _ (sD2243 _ _ h2241))
    · rintro i2246 x2247 a2245 o2256 G2250 H2248 H2249 acc2255 h2253 h S2251 s2252 h2254 T F hT hF
      have f2190 := f2190.same s2252
      have sT2257 := Same.refl G2250
      obtain ⟨rfl, e2259⟩ := h2254
      have f2260 := (e2259 _ h2253).same s2252
      obtain ⟨a2261, rfl⟩ := fr_tup f2260
      obtain ⟨v2262, v2263, h2266, f2264, f2265⟩ := tu2 f2260
      cases fr_int f2264
      cases fr_str f2265
      refine rd_gtup (S2251.sub _ _ h2266) rfl ?_
      refine rd_gcons ?_
      refine rd_nameS (σ' := [some (.ref a2189), some (.int x_person), some (.str y2233), none, none, some (.int a2245.1), none, none]) rfl ?_
      refine rd_gcons ?_
      refine rd_nameS (σ' := [some (.ref a2189), some (.int x_person), some (.str y2233), none, none, some (.int a2245.1), some (.str a2245.2), none]) rfl ?_
      refine rd_gnil ?_
      refine ⟨rfl, ?_⟩
      refine rd_test ?_
      refine rd_op ?_
      refine rd_var rfl ?_
      refine rd_var rfl ?_
      refine q_neS ?_
      refine rd_bl ?_
      rcases cnd h with ⟨c2269, h⟩ | ⟨c2269, h⟩
      ·
        refine iteY c2269 ?_
        refine rd_var rfl ?_
        cases h
        exact hT _ _ _ _ rfl S2251 sT2257 (.str _)
      ·
        refine iteN c2269 ?_
        cases h
        exact hF _ _ rfl S2251 sT2257
    rintro G2270 H2271 w2272 S2273 s2274 f2275 n2276 n2277
    have f2190 := f2190.same s2274
    obtain ⟨G2278, S2279, s2280, f2281⟩ := S2273.fixF 0 rfl (by simp) f2275 n2277
    have f2190 := f2190.same s2280
    refine rd_nameS (σ' := [some (.ref a2189), some (.int x_person), some (.str y2233), some (.ref D2243), none, none, none, none]) rfl ?_
    refine rd_mk ?_
    refine rd_seq ?_
    refine rd_asg ?_
    obtain ⟨y2305, h2306, h⟩ := bnd h
    refine rd_teM2 (fun k H' => ∃  (G2307 : Hp), k = (.str y2305) ∧ Sep [] H0 G2307 H' [] ∧ Same G2278 G2307) (fun R q => ?_) ?_
    ·
      have sE2282 := Same.refl G2278
      have h := h2306
      refine rd_ifE ?_
      refine rd_test ?_
      refine rd_op ?_
      refine rd_var rfl ?_
      refine rd_lstZ ?_
      refine rd_nil ?_
      refine q_lst (F0 := H0) (ds := []) S2279 (by show 0 ≤ LIM; decide) .nil S2279.old fun a2283 G2284 H2285 S2286 s2287 f2288 => ?_
      have f2190 := f2190.same s2287
      have f2281 := f2281.same s2287
      have sE2282 := sE2282.trans s2287
      replace f2288 : Fr H0 G2284 (.ref a2283) ((eL eA) ([] : (List PyData))) := f2288
      obtain ⟨b2289, h2290, h⟩ := bnd h
      refine q_neD (f2281.rp.same S2286.sub) (f2288.rp.same S2286.sub) h2290 ?_
      refine rd_bl ?_
      rcases cnd h with ⟨c2311, h⟩ | ⟨c2311, h⟩
      ·
        refine iteY c2311 ?_
        refine rd_op ?_
        refine rd_var rfl ?_
        refine rd_c ?_
        obtain ⟨y2298, h2299, h⟩ := bnd h
        obtain ⟨w2300, h2301, k2302⟩ := li f2281
        refine q_ixL (S2286.sub _ _ h2301) k2302 h2299 fun v2303 f2304 => ?_
        cases fr_str f2304
        cases h
        exact q _ _ ⟨G2284, rfl, S2286, sE2282⟩
      ·
        refine iteN c2311 ?_
        refine rd_var rfl ?_
        cases h
        exact q _ _ ⟨G2284, rfl, S2286, sE2282⟩
    rintro _ H2308 ⟨G2307, rfl, S2309, s2310⟩
    have f2190 := f2190.same s2310
    have f2281 := f2281.same s2310
    refine rd_nameS (σ' := [some (.ref a2189), some (.int x_person), some (.str y2233), some (.ref D2243), some (.str y2305), none, none, none]) rfl ?_
    refine rd_mk ?_
    refine rd_ret ?_
    refine rd_op ?_
    refine rd_lstZ ?_
    refine rd_cons ?_
    refine rd_tupZ ?_
    refine rd_cons ?_
    refine rd_var rfl ?_
    refine rd_cons ?_
    refine rd_var rfl ?_
    refine rd_nil ?_
    refine q_tup (F0 := H0) (ds := [eI x_person, eS y2305]) S2309 (by show 2 ≤ LIM; decide) (.cons (.int _) (.cons (.str _) .nil)) fun a2312 G2313 H2314 S2315 s2316 f2317 => ?_
    have f2190 := f2190.same s2316
    replace f2317 : Fr H0 G2313 (.ref a2312) ((eT2 eI eS) (x_person, y2305)) := f2317
    refine rd_nil ?_
    refine q_lst (F0 := H0) (ds := [(eT2 eI eS) (x_person, y2305)]) S2315 (by show 1 ≤ LIM; decide) (.cons f2317 .nil) S2315.old fun a2318 G2319 H2320 S2321 s2322 f2323 => ?_
    have f2190 := f2190.same s2322
    replace f2323 : Fr H0 G2319 (.ref a2318) ((eL (eT2 eI eS)) [(x_person, y2305)]) := f2323
    refine rd_lc ?_
    refine rd_iList ?_
    refine rd_var rfl ?_
    obtain ⟨w2324, h2325, k2326⟩ := li f2190
    refine ⟨_, rfl, ⟨_, SqL.of (S2321.sub _ _ h2325)⟩, ?_⟩
    intro D2327 h2328
    obtain ⟨l2351, h2352, h⟩ := bnd h
    refine q_lcL (enc := (eT2 eI eS)) (F0 := H0) h2352 (w_li k2326) S2321 h2328 S2321.old ?_ ?_ ?_
    · rintro GD2327 HD2327 accD2327 SD2327 sD2327
      exact (SD2327.sub _ _ (sD2327 _ _ h2325))
    · rintro i2330 x2331 a2329 o2340 G2334 H2332 H2333 acc2339 h2337 h S2335 s2336 h2338 T F hT hF
      have f2190 := f2190.same s2336
      have f2323 := f2323.same s2336
      have sT2341 := Same.refl G2334
      obtain ⟨rfl, e2343⟩ := h2338
      have f2344 := (e2343 _ h2337).same s2336
      obtain ⟨a2345, rfl⟩ := fr_tup f2344
      refine rd_nameS (σ' := [some (.ref a2189), some (.int x_person), some (.str y2233), some (.ref D2243), some (.str y2305), none, none, some (.ref a2345)]) rfl ?_
      refine ⟨rfl, ?_⟩
      refine rd_test ?_
      refine rd_op ?_
      refine rd_op ?_
      refine rd_var rfl ?_
      refine rd_c ?_
      obtain ⟨v2346, v2347, h2350, f2348, f2349⟩ := tu2 f2344
      cases fr_int f2348
      cases fr_str f2349
      refine rd_ixT (S2335.sub _ _ h2350) rfl ?_
      refine rd_var rfl ?_
      refine q_neI ?_
      refine rd_bl ?_
      rcases cnd h with ⟨c2353, h⟩ | ⟨c2353, h⟩
      ·
        refine iteY c2353 ?_
        refine rd_var rfl ?_
        cases h
        exact hT _ _ _ _ rfl S2335 sT2341 (f2344.imm ((flT2 flI flS) _))
      ·
        refine iteN c2353 ?_
        cases h
        exact hF _ _ rfl S2335 sT2341
    rintro G2354 H2355 w2356 S2357 s2358 f2359 n2360 n2361
    have f2190 := f2190.same s2358
    have f2323 := f2323.same s2358
    obtain ⟨G2362, S2363, s2364, f2365⟩ := S2357.fixF 0 rfl (by simp) f2359 n2361
    have f2190 := f2190.same s2364
    have f2323 := f2323.same s2364
    obtain ⟨y2366, h2367, h⟩ := bnd h
    obtain ⟨w2368, h2369, k2370⟩ := li f2323
    obtain ⟨w2371, h2372, k2373⟩ := li f2365
    refine q_cat S2363 (S2363.sub _ _ h2369) k2370 (S2363.sub _ _ h2372) k2373 h2367 S2363.old fun a2374 G2377 H2375 S2376 s2378 f2379 => ?_
    have f2190 := f2190.same s2378
    cases h
    exact kq a2374 _ _ S2376.toRet f2379
end
end K77

namespace K77
open PySem L2 LX LQ
section
variable {P : Program} {w : World} {K : PySem.W.Frag} {mg : Str → Option Value} {base : Heap} {a : Ad}
open LQF
def sp__law_applied (K : PySem.W.Frag) : Sp := fun vs H Q _ => ∃ (a2380 : Addr) (x_lineup : (List (Int × Str))) (a2381 : Addr) (x_calls : (List Int)), vs = [.ref a2380, .ref a2381] ∧ Fr E0h H (.ref a2380) ((eL (eT2 eI eS)) x_lineup) ∧ Fr E0h H (.ref a2381) ((eL eI) x_calls) ∧ ∃ r, F__law_applied x_lineup x_calls = some r ∧ ∀ (a : Addr) (G H' : Hp), Ret [] H G H' → Fr H G (.ref a) ((eL (eL (eT2 eI eS))) (r)) → Q (.ref a) H'
theorem ok__law_applied (T : Txt K mg a) : FnOk P w K mg base CX0 2 a.f__law_applied a.d__law_applied ["lineup", "calls"] (sp__law_applied K) := by
  refine T.F__law_applied.ok sc__law_applied (fun vs H Q E h => ?_) (fun cdv A outer s H0 vs Q E hr h => ?_)
  · obtain ⟨a2380, x_lineup, a2381, x_calls, rfl, _⟩ := h
    rfl
  · obtain ⟨a2380, x_lineup, a2381, x_calls, rfl, f2382, f2383, r, h, kq⟩ := h
    have nd := sc__law_applied.nd
    have hu64 := hr.units
    have hu65 := units65 hr
    refine ⟨_, (pss_cons (ps_set (i := 2) nd rfl (Or.inl rfl) (pe_lst (pa_cons (pe_callTy (klist (K := K)) (by rfl) T.b_list (by decide +kernel) (pa_cons (pv 0) pa_nil)) pa_nil)))
      (pss_cons (ps_for PassesOwn.never rfl (kpi_list (K := K) (pv 1)) (pg_name (i := 3) nd rfl (Or.inl rfl)) (pss_one (ps_expr (kbm (K := K) PySem.F.plainAttrs_list PySem.F.slot_list_append PySem.F.type_list_append mt_append (pv 2) (pa_cons (pe_call (ok__law_called T) (hr.mono (by decide)) rfl T.g__law_called T.k__law_called T.n__law_called .nil pass0 (pa_cons (pe_ix (kix_list (K := K)) (pv 2) (pe_un un_neg pe_int) (fun _ _ => rfl)) (pa_cons (pv 3) pa_nil))) pa_nil)))))
      (pss_one (ps_ret (pv 2))))), ?_⟩
    unfold F__law_applied at h
    have S0 := Sep.start H0
    refine rd_seq ?_
    refine rd_asg ?_
    refine rd_lstZ ?_
    refine rd_cons ?_
    refine rd_cb ?_
    refine rd_cons ?_
    refine rd_var rfl ?_
    refine rd_nil ?_
    obtain ⟨w2384, h2385, k2386⟩ := li f2382
    refine q_list S0 (S0.sub _ _ h2385) (k2386.imm (flat_map (flT2 flI flS) _)) S0.old fun a2387 G2388 H2389 S2390 s2391 f2392 => ?_
    have f2382 := f2382.same s2391
    have f2383 := f2383.same s2391
    refine rd_nil ?_
    refine q_lstO S2390 (by show 1 ≤ LIM; decide) fun a2393 H2394 S2395 n2396 => ?_
    have f2397 : FrL H0 G2388 [(.ref a2387)] ([x_lineup].map (eL (eT2 eI eS))) := (.cons f2392 .nil)
    refine rd_nameS (σ' := [some (.ref a2380), some (.ref a2381), some (.ref a2393), none]) rfl ?_
    refine rd_mk ?_
    refine rd_seq ?_
    refine rd_for ?_
    refine rd_iList ?_
    refine rd_var rfl ?_
    obtain ⟨w2398, h2399, k2400⟩ := li f2383
    refine ⟨_, rfl, ⟨_, SqL.of (S2395.sub _ _ h2399)⟩, ?_⟩
    obtain ⟨r2420, h2421, h⟩ := bnd h
    refine q_forF h2421 (w_li k2400) (fun s2402 σ' H' => ∃ (x2414 : Option V) (w2415 : List V) (G2410 : Hp), σ' = [some (.ref a2380), some (.ref a2381), some (.ref a2393), x2414] ∧ Sep [] H0 G2410 H' [(a2393, .lst w2415)] ∧ Same G2388 G2410 ∧ FrL H0 G2410 w2415 ((s2402).map (eL (eT2 eI eS)))) ?_ ?_ ?_ ?_
    · exact ⟨_, [(.ref a2387)], G2388, rfl, S2395, Same.refl _, f2397⟩
    · rintro s2402 _ H2411 ⟨x2414, w2415, G2410, rfl, S2412, sE2413, f2416⟩
      exact (S2412.sub _ _ (sE2413 _ _ h2399))
    · rintro i2403 a2401 s2402 s2404 x2405 _ H2411 H2406 h2407 h ⟨x2414, w2415, G2410, rfl, S2412, sE2413, f2416⟩ h2408
      obtain ⟨rfl, e2422⟩ := h2408
      have f2423 := (e2422 _ h2407).same sE2413
      cases fr_int f2423
      refine rd_nameS (σ' := [some (.ref a2380), some (.ref a2381), some (.ref a2393), some (.int a2401)]) rfl ?_
      refine rd_drop ?_
      refine rd_bm ?_
      refine rd_var rfl ?_
      refine ⟨Or.inl ⟨rfl, _, SqL.of (S2412.get 0 rfl)⟩, ?_⟩
      refine rd_cons ?_
      refine rd_call ?_
      refine rd_cons ?_
      refine rd_op ?_
      refine rd_var rfl ?_
      refine rd_un ?_
      refine rd_c ?_
      refine rd_U ?_
      obtain ⟨y2424, h2425, h⟩ := bnd h
      refine q_ixL (S2412.get 0 rfl) f2416 h2425 fun v2426 f2427 => ?_
      obtain ⟨a2428, rfl⟩ := fr_lst f2427
      refine rd_cons ?_
      refine rd_var rfl ?_
      refine rd_nil ?_
      obtain ⟨y2429, h2430, h⟩ := bnd h
      refine ⟨a2428, y2424, a2401, rfl, (f2427.rp.same S2412.sub), y2429, h2430, fun a2434 G2431 H2432 R2433 f2435 => ?_⟩
      obtain ⟨G2436, S2437, s2438, t2439, l2440⟩ := S2412.ret0 R2433
      have f2416 := f2416.same s2438
      have sE2413 := sE2413.trans s2438
      have f2435 := t2439 _ _ f2435
      refine rd_nil ?_
      obtain ⟨l2441, h2442, h⟩ := bnd h
      refine q_app S2437 0 rfl f2416 f2435 h2442 fun w2443 H2444 S2445 f2446 => ?_
      have S2445 : Sep [] H0 G2436 H2444 [(a2393, .lst w2443)] := S2445
      cases h
      exact ⟨_, w2443, G2436, rfl, S2445, sE2413, f2446⟩
    rintro _ H2448 ⟨x2451, w2452, G2447, rfl, S2449, sE2450, f2453⟩
    refine rd_mk ?_
    refine rd_ret ?_
    refine rd_var rfl ?_
    obtain ⟨G2454, S2455, s2456, f2457⟩ := S2449.fixL 0 rfl (by simp) f2453 n2396
    cases h
    exact kq a2393 _ _ S2455.toRet f2457
end
end K77

namespace K77
open PySem L2 LX LQ
section
variable {P : Program} {w : World} {K : PySem.W.Frag} {mg : Str → Option Value} {base : Heap} {a : Ad}
open LQF
def sp__law_rounds (K : PySem.W.Frag) : Sp := fun vs H Q _ => ∃ (a2458 : Addr) (x_lineup : (List (Int × Str))) (a2459 : Addr) (x_calls : (List Int)), vs = [.ref a2458, .ref a2459] ∧ Fr E0h H (.ref a2458) ((eL (eT2 eI eS)) x_lineup) ∧ Fr E0h H (.ref a2459) ((eL eI) x_calls) ∧ ∃ r, F__law_rounds x_lineup x_calls = some r ∧ ∀ (a : Addr) (G H' : Hp), Ret [] H G H' → Fr H G (.ref a) ((eT2 (eL (eL (eT2 eI eS))) eI) (r)) → Q (.ref a) H'
theorem ok__law_rounds (T : Txt K mg a) : FnOk P w K mg base CX0 3 a.f__law_rounds a.d__law_rounds ["lineup", "calls"] (sp__law_rounds K) := by
  refine T.F__law_rounds.ok sc__law_rounds (fun vs H Q E h => ?_) (fun cdv A outer s H0 vs Q E hr h => ?_)
  · obtain ⟨a2458, x_lineup, a2459, x_calls, rfl, _⟩ := h
    rfl
  · obtain ⟨a2458, x_lineup, a2459, x_calls, rfl, f2460, f2461, r, h, kq⟩ := h
    have nd := sc__law_rounds.nd
    have hu64 := hr.units
    have hu65 := units65 hr
    refine ⟨_, (pss_cons (ps_set (i := 2) nd rfl (Or.inl rfl) (pe_lst (pa_cons (pe_callTy (klist (K := K)) (by rfl) T.b_list (by decide +kernel) (pa_cons (pv 0) pa_nil)) pa_nil)))
      (pss_cons (ps_while PassesOwn.never (pt_cmpR (knotInD (K := K) hu65) (pe_ix (kix_list (K := K)) (pv 2) (pe_un un_neg pe_int) (fun _ _ => rfl)) (pe_slice (ksl_list (K := K)) (pv 2) po_none (po_some (pe_un un_neg pe_int))) rfl) (pss_one (ps_expr (kbm (K := K) PySem.F.plainAttrs_list PySem.F.slot_list_append PySem.F.type_list_append mt_append (pv 2) (pa_cons (pe_ix (kix_list (K := K)) (pe_call (ok__law_applied T) (hr.mono (by decide)) rfl T.g__law_applied T.k__law_applied T.n__law_applied .nil pass0 (pa_cons (pe_ix (kix_list (K := K)) (pv 2) (pe_un un_neg pe_int) (fun _ _ => rfl)) (pa_cons (pv 1) pa_nil))) (pe_un un_neg pe_int) (fun _ _ => rfl)) pa_nil)))))
      (pss_one (ps_ret (pe_tup (pa_cons (pe_slice (ksl_list (K := K)) (pv 2) po_none (po_some (pe_un un_neg pe_int))) (pa_cons (kbm (K := K) PySem.F.plainAttrs_list PySem.F.slot_list_index PySem.F.type_list_index (kindexD (K := K) hu65) (pv 2) (pa_cons (pe_ix (kix_list (K := K)) (pv 2) (pe_un un_neg pe_int) (fun _ _ => rfl)) pa_nil)) pa_nil))))))), ?_⟩
    unfold F__law_rounds at h
    have S0 := Sep.start H0
    refine rd_seq ?_
    refine rd_asg ?_
    refine rd_lstZ ?_
    refine rd_cons ?_
    refine rd_cb ?_
    refine rd_cons ?_
    refine rd_var rfl ?_
    refine rd_nil ?_
    obtain ⟨w2462, h2463, k2464⟩ := li f2460
    refine q_list S0 (S0.sub _ _ h2463) (k2464.imm (flat_map (flT2 flI flS) _)) S0.old fun a2465 G2466 H2467 S2468 s2469 f2470 => ?_
    have f2460 := f2460.same s2469
    have f2461 := f2461.same s2469
    refine rd_nil ?_
    refine q_lstO S2468 (by show 1 ≤ LIM; decide) fun a2471 H2472 S2473 n2474 => ?_
    have f2475 : FrL H0 G2466 [(.ref a2465)] ([x_lineup].map (eL (eT2 eI eS))) := (.cons f2470 .nil)
    refine rd_nameS (σ' := [some (.ref a2458), some (.ref a2459), some (.ref a2471)]) rfl ?_
    refine rd_mk ?_
    refine rd_seq ?_
    obtain ⟨r2490, h2491, h⟩ := bnd h
    refine q_whileF h2491 (fun s2476 σ' H' => ∃ (w2485 : List V) (G2481 : Hp), σ' = [some (.ref a2458), some (.ref a2459), some (.ref a2471)] ∧ Sep [] H0 G2481 H' [(a2471, .lst w2485)] ∧ Same G2466 G2481 ∧ FrL H0 G2481 w2485 ((s2476).map (eL (eT2 eI eS)))) ?_ ?_ ?_ ?_
    · exact ⟨[(.ref a2465)], G2466, rfl, S2473, Same.refl _, f2475⟩
    · rintro s2476 t2478 _ H2482 h ⟨w2485, G2481, rfl, S2483, sE2484, f2486⟩ Q Q2480
      have f2461 := f2461.same sE2484
      refine rd_test ?_
      refine rd_op ?_
      refine rd_op ?_
      refine rd_var rfl ?_
      refine rd_un ?_
      refine rd_c ?_
      refine rd_U ?_
      obtain ⟨y2493, h2494, h⟩ := bnd h
      refine q_ixL (S2483.get 0 rfl) f2486 h2494 fun v2495 f2496 => ?_
      obtain ⟨a2497, rfl⟩ := fr_lst f2496
      refine rd_sl ?_
      refine rd_var rfl ?_
      refine rd_nopart ?_
      refine rd_part ?_
      refine rd_un ?_
      refine rd_c ?_
      refine rd_U ?_
      refine rd_int ?_
      refine q_slL S2483 (S2483.get 0 rfl) f2486 S2483.old fun a2498 G2501 H2499 S2500 s2502 f2503 => ?_
      have f2461 := f2461.same s2502
      have f2496 := f2496.same s2502
      have f2486 := f2486.same s2502
      have sE2484 := sE2484.trans s2502
      obtain ⟨b2504, h2505, h⟩ := bnd h
      refine q_niD (f2496.rp.same S2500.sub) (f2503.rp.same S2500.sub) h2505 ?_
      refine rd_bl ?_
      cases h
      exact Q2480 _ ⟨w2485, G2501, rfl, S2500, sE2484, f2486⟩
    · rintro s2476 s2477 _ H2482 h h2492 ⟨w2485, G2481, rfl, S2483, sE2484, f2486⟩
      have f2461 := f2461.same sE2484
      refine rd_drop ?_
      refine rd_bm ?_
      refine rd_var rfl ?_
      refine ⟨Or.inl ⟨rfl, _, SqL.of (S2483.get 0 rfl)⟩, ?_⟩
      refine rd_cons ?_
      refine rd_op ?_
      refine rd_call ?_
      refine rd_cons ?_
      refine rd_op ?_
      refine rd_var rfl ?_
      refine rd_un ?_
      refine rd_c ?_
      refine rd_U ?_
      obtain ⟨y2506, h2507, h⟩ := bnd h
      refine q_ixL (S2483.get 0 rfl) f2486 h2507 fun v2508 f2509 => ?_
      obtain ⟨a2510, rfl⟩ := fr_lst f2509
      refine rd_cons ?_
      refine rd_var rfl ?_
      refine rd_nil ?_
      obtain ⟨y2511, h2512, h⟩ := bnd h
      refine ⟨a2510, y2506, a2459, x_calls, rfl, (f2509.rp.same S2483.sub), (f2461.same S2483.sub), y2511, h2512, fun a2516 G2513 H2514 R2515 f2517 => ?_⟩
      obtain ⟨G2518, S2519, s2520, t2521, l2522⟩ := S2483.ret0 R2515
      have f2461 := f2461.same s2520
      have f2486 := f2486.same s2520
      have sE2484 := sE2484.trans s2520
      have f2517 := t2521 _ _ f2517
      refine rd_un ?_
      refine rd_c ?_
      refine rd_U ?_
      obtain ⟨y2523, h2524, h⟩ := bnd h
      obtain ⟨w2525, h2526, k2527⟩ := li f2517
      refine q_ixL (S2519.sub _ _ h2526) k2527 h2524 fun v2528 f2529 => ?_
      obtain ⟨a2530, rfl⟩ := fr_lst f2529
      refine rd_nil ?_
      obtain ⟨l2531, h2532, h⟩ := bnd h
      refine q_app S2519 0 rfl f2486 f2529 h2532 fun w2533 H2534 S2535 f2536 => ?_
      have S2535 : Sep [] H0 G2518 H2534 [(a2471, .lst w2533)] := S2535
      cases h
      exact ⟨w2533, G2518, rfl, S2535, sE2484, f2536⟩
    rintro _ H2538 ⟨w2541, G2537, rfl, S2539, sE2540, f2542⟩
    have f2461 := f2461.same sE2540
    refine rd_mk ?_
    refine rd_ret ?_
    refine rd_tupZ ?_
    refine rd_cons ?_
    refine rd_sl ?_
    refine rd_var rfl ?_
    refine rd_nopart ?_
    refine rd_part ?_
    refine rd_un ?_
    refine rd_c ?_
    refine rd_U ?_
    refine rd_int ?_
    refine q_slL S2539 (S2539.get 0 rfl) f2542 S2539.old fun a2543 G2546 H2544 S2545 s2547 f2548 => ?_
    have f2542 := f2542.same s2547
    refine rd_cons ?_
    refine rd_bm ?_
    refine rd_var rfl ?_
    refine ⟨Or.inl ⟨rfl, _, SqL.of (S2545.get 0 rfl)⟩, ?_⟩
    refine rd_cons ?_
    refine rd_op ?_
    refine rd_var rfl ?_
    refine rd_un ?_
    refine rd_c ?_
    refine rd_U ?_
    obtain ⟨y2549, h2550, h⟩ := bnd h
    refine q_ixL (S2545.get 0 rfl) f2542 h2550 fun v2551 f2552 => ?_
    obtain ⟨a2553, rfl⟩ := fr_lst f2552
    refine rd_nil ?_
    obtain ⟨y2554, h2555, h⟩ := bnd h
    refine q_idxD (f2552.rp.same S2545.sub) (S2545.rd 0 rfl f2542) h2555 ?_
    refine rd_nil ?_
    refine q_tup (F0 := H0) (ds := [(eL (eL (eT2 eI eS))) (cutL r2490 none (some (-(1 : Int)))), eI y2554]) S2545 (by show 2 ≤ LIM; decide) (.cons f2548 (.cons (.int _) .nil)) fun a2556 G2557 H2558 S2559 s2560 f2561 => ?_
    have f2542 := f2542.same s2560
    replace f2561 : Fr H0 G2557 (.ref a2556) ((eT2 (eL (eL (eT2 eI eS))) eI) ((cutL r2490 none (some (-(1 : Int)))), y2554)) := f2561
    cases h
    exact kq a2556 _ _ S2559.toRet f2561
end
end K77

namespace K77
open PySem L2 LX LQ
section
variable {P : Program} {w : World} {K : PySem.W.Frag} {mg : Str → Option Value} {base : Heap} {a : Ad}
open LQF
def sp__law_colors (K : PySem.W.Frag) : Sp := fun vs H Q _ => ∃ (a2562 : Addr) (x_lineup : (List (Int × Str))) (a2563 : Addr) (x_people : (List Int)), vs = [.ref a2562, .ref a2563] ∧ Fr E0h H (.ref a2562) ((eL (eT2 eI eS)) x_lineup) ∧ Fr E0h H (.ref a2563) ((eL eI) x_people) ∧ ∃ r, F__law_colors x_lineup x_people = some r ∧ ∀ (G H' : Hp), Ret [] H G H' → Q (.str (r)) H'
theorem ok__law_colors (T : Txt K mg a) : FnOk P w K mg base CX0 1 a.f__law_colors a.d__law_colors ["lineup", "people"] (sp__law_colors K) := by
  refine T.F__law_colors.ok sc__law_colors (fun vs H Q E h => ?_) (fun cdv A outer s H0 vs Q E hr h => ?_)
  · obtain ⟨a2562, x_lineup, a2563, x_people, rfl, _⟩ := h
    rfl
  · obtain ⟨a2562, x_lineup, a2563, x_people, rfl, f2564, f2565, r, h, kq⟩ := h
    have nd := sc__law_colors.nd
    have hu64 := hr.units
    have hu65 := units65 hr
    refine ⟨_, (pss_cons (ps_set (i := 2) nd rfl (Or.inr rfl) (pe_callTy (kdictP (K := K) rfl) (by rfl) T.b_dict (by decide +kernel) (pa_cons (pe_lc (own := [("person", 3)]) (g := gName 3) (tt := tYes) rfl nd (kpi_list (K := K) (pv 1)) (blkOk_by (own := [("person", 3)]) (N := ["lineup", "people", "members", "person", "color"]) (sc := defScope s__law_colors) (by decide +kernel)) (fun _ _ _ _ _ => (pg_name (i := 3) nd rfl (Or.inl rfl))) (fun _ _ _ _ _ => pts_nil) (fun _ _ _ _ _ => (pe_tup (pa_cons (pv 3) (pa_cons pe_bl pa_nil))))) pa_nil)))
      (pss_one (ps_ret (kbm (K := K) PySem.F.plainAttrs_str PySem.F.slot_str_join PySem.F.type_str_join (kjoin (K := K)) pe_str (pa_cons (pe_callB (ksortTxt (P := P) (w := w) rfl) (by rfl) T.b_sorted (by decide +kernel) (pa_cons (pe_callTy (ksetS (K := K) (P := P) (w := w) rfl) (by rfl) T.b_set (by decide +kernel) (pa_cons (pe_lc (own := [("person", 3), ("color", 4)]) (g := gTup K 2 (gCons (gName 3) (gCons (gName 4) gNil))) rfl nd (kpi_list (K := K) (pv 0)) (blkOk_by (own := [("person", 3), ("color", 4)]) (N := ["lineup", "people", "members", "person", "color"]) (sc := defScope s__law_colors) (by decide +kernel)) (fun _ _ _ _ _ => (kpg_tup (K := K) rfl (pgs_cons (pg_name (i := 3) nd rfl (Or.inl rfl)) (pgs_cons (pg_name (i := 4) nd rfl (Or.inl rfl)) pgs_nil)))) (fun _ _ _ _ _ => pts_one (pt_cmp (pc_din (u1_of hu64) (pv 3) (pv 2)) rfl)) (fun _ _ _ _ _ => (pv 4))) pa_nil)) pa_nil)) pa_nil))))), ?_⟩
    unfold F__law_colors at h
    have S0 := Sep.start H0
    refine rd_seq ?_
    refine rd_asg ?_
    refine rd_cb ?_
    refine rd_cons ?_
    refine rd_lc ?_
    refine rd_iList ?_
    refine rd_var rfl ?_
    obtain ⟨w2566, h2567, k2568⟩ := li f2565
    refine ⟨_, rfl, ⟨_, SqL.of (S0.sub _ _ h2567)⟩, ?_⟩
    intro D2569 h2570
    obtain ⟨l2593, h2594, h⟩ := bnd h
    refine q_lcL (enc := (eT2 eI eB)) (F0 := H0) h2594 (w_li k2568) S0 h2570 S0.old ?_ ?_ ?_
    · rintro GD2569 HD2569 accD2569 SD2569 sD2569
      exact (SD2569.sub _ _ (sD2569 _ _ h2567))
    · rintro i2572 x2573 a2571 o2582 G2576 H2574 H2575 acc2581 h2579 h S2577 s2578 h2580 T F hT hF
      have f2564 := f2564.same s2578
      have f2565 := f2565.same s2578
      have sT2583 := Same.refl G2576
      obtain ⟨rfl, e2585⟩ := h2580
      have f2586 := (e2585 _ h2579).same s2578
      cases fr_int f2586
      refine rd_nameS (σ' := [some (.ref a2562), some (.ref a2563), none, some (.int a2571), none]) rfl ?_
      refine ⟨rfl, ?_⟩
      refine rd_tyes ?_
      refine iteY rfl ?_
      refine rd_tupZ ?_
      refine rd_cons ?_
      refine rd_var rfl ?_
      refine rd_cons ?_
      refine rd_c ?_
      refine rd_nil ?_
      refine q_tup (F0 := H0) (ds := [eI a2571, eB true]) S2577 (by show 2 ≤ LIM; decide) (.cons (.int _) (.cons (.bl _) .nil)) fun a2587 G2588 H2589 S2590 s2591 f2592 => ?_
      have f2564 := f2564.same s2591
      have f2565 := f2565.same s2591
      have sT2583 := sT2583.trans s2591
      replace f2592 : Fr H0 G2588 (.ref a2587) ((eT2 eI eB) (a2571, true)) := f2592
      cases h
      exact hT _ _ _ _ rfl S2590 sT2583 f2592
    rintro G2595 H2596 w2597 S2598 s2599 f2600 n2601 n2602
    have f2564 := f2564.same s2599
    have f2565 := f2565.same s2599
    obtain ⟨G2603, S2604, s2605, f2606⟩ := S2598.fixF 0 rfl (by simp) f2600 n2602
    have f2564 := f2564.same s2605
    have f2565 := f2565.same s2605
    refine rd_nil ?_
    obtain ⟨w2607, h2608, k2609⟩ := li f2606
    refine q_dictP (kk := kI) (g := eB) (m := l2593) kdI kI_inj S2604 (S2604.sub _ _ h2608) k2609 S2604.old fun a2610 G2611 H2612 S2613 s2614 f2615 => ?_
    have f2564 := f2564.same s2614
    have f2565 := f2565.same s2614
    refine rd_nameS (σ' := [some (.ref a2562), some (.ref a2563), some (.ref a2610), none, none]) rfl ?_
    refine rd_mk ?_
    refine rd_ret ?_
    refine rd_bm ?_
    refine rd_c ?_
    refine ⟨rfl, ?_⟩
    refine rd_cons ?_
    refine rd_cb ?_
    refine rd_cons ?_
    refine rd_cb ?_
    refine rd_cons ?_
    refine rd_lc ?_
    refine rd_iList ?_
    refine rd_var rfl ?_
    obtain ⟨w2616, h2617, k2618⟩ := li f2564
    refine ⟨_, rfl, ⟨_, SqL.of (S2613.sub _ _ h2617)⟩, ?_⟩
    intro D2619 h2620
    obtain ⟨l2646, h2647, h⟩ := bnd h
    refine q_lcL (enc := eS) (F0 := H0) h2647 (w_li k2618) S2613 h2620 S2613.old ?_ ?_ ?_
    · rintro GD2619 HD2619 accD2619 SD2619 sD2619
      exact (SD2619.sub _ _ (sD2619 _ _ h2617))
    · rintro i2622 x2623 a2621 o2632 G2626 H2624 H2625 acc2631 h2629 h S2627 s2628 h2630 T F hT hF
      have f2564 := f2564.same s2628
      have f2615 := f2615.same s2628
      have sT2633 := Same.refl G2626
      obtain ⟨rfl, e2635⟩ := h2630
      have f2636 := (e2635 _ h2629).same s2628
      obtain ⟨a2637, rfl⟩ := fr_tup f2636
      obtain ⟨v2638, v2639, h2642, f2640, f2641⟩ := tu2 f2636
      cases fr_int f2640
      cases fr_str f2641
      refine rd_gtup (S2627.sub _ _ h2642) rfl ?_
      refine rd_gcons ?_
      refine rd_nameS (σ' := [some (.ref a2562), some (.ref a2563), some (.ref a2610), some (.int a2621.1), none]) rfl ?_
      refine rd_gcons ?_
      refine rd_nameS (σ' := [some (.ref a2562), some (.ref a2563), some (.ref a2610), some (.int a2621.1), some (.str a2621.2)]) rfl ?_
      refine rd_gnil ?_
      refine ⟨rfl, ?_⟩
      refine rd_test ?_
      refine rd_dinZ ?_
      refine rd_var rfl ?_
      refine rd_var rfl ?_
      obtain ⟨w2643, h2644, k2645⟩ := di f2615
      refine q_din (kk := kI) kI_inj (rd_same h2644 S2627.sub) k2645 (kV_I _).symm ?_
      refine rd_bl ?_
      rcases cnd h with ⟨c2648, h⟩ | ⟨c2648, h⟩
      ·
        refine iteY c2648 ?_
        refine rd_var rfl ?_
        cases h
        exact hT _ _ _ _ rfl S2627 sT2633 (.str _)
      ·
        refine iteN c2648 ?_
        cases h
        exact hF _ _ rfl S2627 sT2633
    rintro G2649 H2650 w2651 S2652 s2653 f2654 n2655 n2656
    have f2564 := f2564.same s2653
    have f2615 := f2615.same s2653
    obtain ⟨G2657, S2658, s2659, f2660⟩ := S2652.fixF 0 rfl (by simp) f2654 n2656
    have f2564 := f2564.same s2659
    have f2615 := f2615.same s2659
    refine rd_nil ?_
    obtain ⟨w2661, h2662, k2663⟩ := li f2660
    obtain ⟨y2664, h2665, h⟩ := bnd h
    refine q_setS S2658 (S2658.sub _ _ h2662) k2663 h2665 fun a2666 G2670 H2667 S2668 s2671 f2669 => ?_
    have f2564 := f2564.same s2671
    have f2615 := f2615.same s2671
    refine rd_nil ?_
    refine q_sortU S2668 f2669 ?_
    refine q_new (F0 := H0) (ds := (sortU y2664).map eS) S2668 (strs_frl _) S2668.old fun a2674 G2675 H2676 S2677 s2678 f2679 => ?_
    have f2564 := f2564.same s2678
    have f2615 := f2615.same s2678
    refine rd_nil ?_
    obtain ⟨w2680, h2681, k2682⟩ := li f2679
    obtain ⟨y2683, h2684, h⟩ := bnd h
    refine q_join (S2677.sub _ _ h2681) k2682 h2684 ?_
    cases h
    exact kq _ _ S2677.toRet
end
end K77

namespace K77
open PySem L2 LX LQ
section
variable {P : Program} {w : World} {K : PySem.W.Frag} {mg : Str → Option Value} {base : Heap} {a : Ad}
open LQF
def sp_is_integer (K : PySem.W.Frag) : Sp := fun vs H Q _ => ∃ (x_value : Int), vs = [(.int x_value)] ∧ ∃ r, F_is_integer x_value = some r ∧ ∀ (G H' : Hp), Ret [] H G H' → Q (.bl (r)) H'
theorem ok_is_integer (T : Txt K mg a) : FnOk P w K mg base CX0 1 a.f_is_integer a.d_is_integer ["value"] (sp_is_integer K) := by
  refine T.F_is_integer.ok sc_is_integer (fun vs H Q E h => ?_) (fun cdv A outer s H0 vs Q E hr h => ?_)
  · obtain ⟨x_value, rfl, _⟩ := h
    rfl
  · obtain ⟨x_value, rfl, r, h, kq⟩ := h
    have nd := sc_is_integer.nd
    have hu64 := hr.units
    have hu65 := units65 hr
    refine ⟨_, (pss_one (ps_ret (pe_and (pe_callB (kisi (K := K)) (by rfl) T.b_isinstance (by decide +kernel) (pa_cons (pv 0) (pa_cons (pe_bltn (v := .ty "int") (by rfl) T.b_int (by decide +kernel) rfl) pa_nil))) (pe_one (pe_not (pe_callB (kisi (K := K)) (by rfl) T.b_isinstance (by decide +kernel) (pa_cons (pv 0) (pa_cons (pe_bltn (v := .ty "bool") (by rfl) T.b_bool (by decide +kernel) rfl) pa_nil)))))))), ?_⟩
    unfold F_is_integer at h
    have S0 := Sep.start H0
    refine rd_ret ?_
    refine rd_teM2 (fun k H' => k = .bl (true && (!false)) ∧ H0 = H') (fun R q => ?_) ?_
    ·
      refine rd_andV ?_
      refine rd_cb ?_
      refine rd_cons ?_
      refine rd_var rfl ?_
      refine rd_cons ?_
      refine rd_c ?_
      refine rd_nil ?_
      refine rd_isi (.ty "int") (.base (.int _)) (kit_ty (r := true) (by decide +kernel)) ?_
      refine ⟨_, rfl, ?_⟩
      refine ite_by (fun c2687 => ?_) (fun c2687 => ?_)
      ·
        refine rd_notV ?_
        refine rd_cb ?_
        refine rd_cons ?_
        refine rd_var rfl ?_
        refine rd_cons ?_
        refine rd_c ?_
        refine rd_nil ?_
        refine rd_isi (.ty "bool") (.base (.int _)) (kit_ty (r := false) (by decide +kernel)) ?_
        refine rd_bl ?_
        exact q _ _ ⟨(congrArg V.bl (andT c2687 rfl)), rfl⟩
      ·
        exact q _ _ ⟨(congrArg V.bl (andF c2687)), rfl⟩
    rintro _ _ ⟨rfl, rfl⟩
    cases h
    exact kq _ _ S0.toRet
end
end K77

namespace K77
open PySem L2 LX LQ
section
variable {P : Program} {w : World} {K : PySem.W.Frag} {mg : Str → Option Value} {base : Heap} {a : Ad}
open LQF
def sp_is_color (K : PySem.W.Frag) : Sp := fun vs H Q _ => ∃ (x_value : Str), vs = [(.str x_value)] ∧ ∃ r, F_is_color x_value = some r ∧ ∀ (G H' : Hp), Ret [] H G H' → Q (.bl (r)) H'
theorem ok_is_color (T : Txt K mg a) : FnOk P w K mg base CX0 1 a.f_is_color a.d_is_color ["value"] (sp_is_color K) := by
  refine T.F_is_color.ok sc_is_color (fun vs H Q E h => ?_) (fun cdv A outer s H0 vs Q E hr h => ?_)
  · obtain ⟨x_value, rfl, _⟩ := h
    rfl
  · obtain ⟨x_value, rfl, r, h, kq⟩ := h
    have nd := sc_is_color.nd
    have hu64 := hr.units
    have hu65 := units65 hr
    refine ⟨_, (pss_one (ps_ret (pe_and (pe_cmpR op_isTyB (pe_typeOf rfl T.b_type (pv 0)) (pe_bltn (v := .ty "str") (by rfl) T.b_str (by decide +kernel) rfl) (nomark _)) (pe_and (pe_cmpR op_eq (pe_callB klenS (by rfl) T.b_len (by decide +kernel) (pa_cons (pv 0) pa_nil)) pe_int (nomark _)) (pe_one (pe_chain op_le_str op_le_str pe_str (pv 0) pe_str)))))), ?_⟩
    unfold F_is_color at h
    have S0 := Sep.start H0
    refine rd_ret ?_
    obtain ⟨b2695, h2696, h⟩ := bnd h
    refine rd_teM2 (fun k H' => ∃  (G2697 : Hp), k = .bl b2695 ∧ Sep [] H0 G2697 H' [] ∧ Same H0 G2697) (fun R q => ?_) ?_
    ·
      have sE2688 := Same.refl H0
      have h := h2696
      refine rd_andV ?_
      refine rd_op ?_
      refine rd_cb ?_
      refine rd_cons ?_
      refine rd_var rfl ?_
      refine rd_nil ?_
      refine rd_typ (n := "str") rfl ?_
      refine rd_c ?_
      refine rd_2ty ?_
      refine ⟨_, rfl, ?_⟩
      rcases cnd h with ⟨c2701, h⟩ | ⟨c2701, h⟩
      ·
        refine iteY c2701 ?_
        refine rd_andV ?_
        refine rd_op ?_
        refine rd_cb ?_
        refine rd_cons ?_
        refine rd_var rfl ?_
        refine rd_nil ?_
        obtain ⟨y2689, h2690, h⟩ := bnd h
        refine q_lenS h2690 ?_
        refine rd_c ?_
        refine q_eqI ?_
        refine ⟨_, rfl, ?_⟩
        rcases cnd h with ⟨c2702, h⟩ | ⟨c2702, h⟩
        ·
          refine iteY c2702 ?_
          refine rd_teM2 (fun k H' => k = .bl ((!ltS x_value (Str.ofString "a")) && (!ltS (Str.ofString "z") x_value)) ∧ H0 = H') (fun R q => ?_) ?_
          ·
            refine rd_chain ?_
            refine rd_c ?_
            refine rd_var rfl ?_
            refine rd_2s ?_
            refine rd_bl ?_
            refine ite_by (fun c2693 => ?_) (fun c2693 => ?_)
            ·
              refine rd_c ?_
              refine rd_2s ?_
              exact q _ _ ⟨(congrArg V.bl (andT c2693 rfl)), rfl⟩
            ·
              exact q _ _ ⟨(congrArg V.bl (andF c2693)), rfl⟩
          rintro _ _ ⟨rfl, rfl⟩
          cases h
          exact q _ _ ⟨H0, rfl, S0, sE2688⟩
        ·
          refine iteN c2702 ?_
          cases h
          exact q _ _ ⟨H0, rfl, S0, sE2688⟩
      ·
        refine iteN c2701 ?_
        cases h
        exact q _ _ ⟨H0, rfl, S0, sE2688⟩
    rintro _ H2698 ⟨G2697, rfl, S2699, s2700⟩
    cases h
    exact kq _ _ S2699.toRet
end
end K77

namespace K77
open PySem L2 LX LQ
section
variable {P : Program} {w : World} {K : PySem.W.Frag} {mg : Str → Option Value} {base : Heap} {a : Ad}
open LQF
def sp_is_colored_integer (K : PySem.W.Frag) : Sp := fun vs H Q _ => ∃ (a2703 : Addr) (x_value : (Int × Str)), vs = [.ref a2703] ∧ Fr E0h H (.ref a2703) ((eT2 eI eS) x_value) ∧ ∃ r, F_is_colored_integer x_value = some r ∧ ∀ (G H' : Hp), Ret [] H G H' → Q (.bl (r)) H'
theorem ok_is_colored_integer (T : Txt K mg a) : FnOk P w K mg base CX0 2 a.f_is_colored_integer a.d_is_colored_integer ["value"] (sp_is_colored_integer K) := by
  refine T.F_is_colored_integer.ok sc_is_colored_integer (fun vs H Q E h => ?_) (fun cdv A outer s H0 vs Q E hr h => ?_)
  · obtain ⟨a2703, x_value, rfl, _⟩ := h
    rfl
  · obtain ⟨a2703, x_value, rfl, f2704, r, h, kq⟩ := h
    have nd := sc_is_colored_integer.nd
    have hu64 := hr.units
    have hu65 := units65 hr
    refine ⟨_, (pss_one (ps_ret (pe_and (pe_cmpR op_isTyB (pe_typeOf rfl T.b_type (pv 0)) (pe_bltn (v := .ty "tuple") (by rfl) T.b_tuple (by decide +kernel) rfl) (nomark _)) (pe_and (pe_cmpR op_eq (pe_callB (klen (K := K)) (by rfl) T.b_len (by decide +kernel) (pa_cons (pv 0) pa_nil)) pe_int (nomark _)) (pe_and (pe_call (ok_is_integer T) (hr.mono (by decide)) rfl T.g_is_integer T.k_is_integer T.n_is_integer .nil pass0 (pa_cons (pe_ix (kix_tup (K := K)) (pv 0) pe_int (fun _ _ => rfl)) pa_nil)) (pe_one (pe_call (ok_is_color T) (hr.mono (by decide)) rfl T.g_is_color T.k_is_color T.n_is_color .nil pass0 (pa_cons (pe_ix (kix_tup (K := K)) (pv 0) pe_int (fun _ _ => rfl)) pa_nil)))))))), ?_⟩
    unfold F_is_colored_integer at h
    have S0 := Sep.start H0
    refine rd_ret ?_
    obtain ⟨b2745, h2746, h⟩ := bnd h
    refine rd_teM2 (fun k H' => ∃  (G2747 : Hp), k = .bl b2745 ∧ Sep [] H0 G2747 H' [] ∧ Same H0 G2747) (fun R q => ?_) ?_
    ·
      have sE2705 := Same.refl H0
      have h := h2746
      refine rd_andV ?_
      refine rd_op ?_
      refine rd_cb ?_
      refine rd_cons ?_
      refine rd_var rfl ?_
      refine rd_nil ?_
      obtain ⟨_, h2706, _⟩ := tu f2704
      refine rd_tyT (S0.sub _ _ h2706) ?_
      refine rd_c ?_
      refine rd_2ty ?_
      refine ⟨_, rfl, ?_⟩
      rcases cnd h with ⟨c2751, h⟩ | ⟨c2751, h⟩
      ·
        refine iteY c2751 ?_
        refine rd_andV ?_
        refine rd_op ?_
        refine rd_cb ?_
        refine rd_cons ?_
        refine rd_var rfl ?_
        refine rd_nil ?_
        obtain ⟨v2709, v2710, h2713, f2711, f2712⟩ := tu2 f2704
        cases fr_int f2711
        cases fr_str f2712
        refine rd_lenT (S0.sub _ _ h2713) ?_
        refine rd_c ?_
        refine q_eqI ?_
        refine ⟨_, rfl, ?_⟩
        rcases cnd h with ⟨c2752, h⟩ | ⟨c2752, h⟩
        ·
          refine iteY c2752 ?_
          refine rd_andV ?_
          refine rd_call ?_
          refine rd_cons ?_
          refine rd_op ?_
          refine rd_var rfl ?_
          refine rd_c ?_
          obtain ⟨v2714, v2715, h2718, f2716, f2717⟩ := tu2 f2704
          cases fr_int f2716
          cases fr_str f2717
          refine rd_ixT (S0.sub _ _ h2718) rfl ?_
          refine rd_nil ?_
          obtain ⟨y2719, h2720, h⟩ := bnd h
          refine ⟨x_value.1, rfl, y2719, h2720, fun G2721 H2722 R2723 => ?_⟩
          obtain ⟨G2724, S2725, s2726, t2727, l2728⟩ := S0.ret0 R2723
          have f2704 := f2704.same s2726
          have sE2705 := sE2705.trans s2726
          refine ⟨_, rfl, ?_⟩
          rcases cnd h with ⟨c2753, h⟩ | ⟨c2753, h⟩
          ·
            refine iteY c2753 ?_
            refine rd_call ?_
            refine rd_cons ?_
            refine rd_op ?_
            refine rd_var rfl ?_
            refine rd_c ?_
            obtain ⟨v2729, v2730, h2733, f2731, f2732⟩ := tu2 f2704
            cases fr_int f2731
            cases fr_str f2732
            refine rd_ixT (S2725.sub _ _ h2733) rfl ?_
            refine rd_nil ?_
            obtain ⟨y2734, h2735, h⟩ := bnd h
            refine ⟨x_value.2, rfl, y2734, h2735, fun G2736 H2737 R2738 => ?_⟩
            obtain ⟨G2739, S2740, s2741, t2742, l2743⟩ := S2725.ret0 R2738
            have f2704 := f2704.same s2741
            have sE2705 := sE2705.trans s2741
            cases h
            exact q _ _ ⟨G2739, rfl, S2740, sE2705⟩
          ·
            refine iteN c2753 ?_
            cases h
            exact q _ _ ⟨G2724, rfl, S2725, sE2705⟩
        ·
          refine iteN c2752 ?_
          cases h
          exact q _ _ ⟨H0, rfl, S0, sE2705⟩
      ·
        refine iteN c2751 ?_
        cases h
        exact q _ _ ⟨H0, rfl, S0, sE2705⟩
    rintro _ H2748 ⟨G2747, rfl, S2749, s2750⟩
    have f2704 := f2704.same s2750
    cases h
    exact kq _ _ S2749.toRet
end
end K77

namespace K77
open PySem L2 LX LQ
section
variable {P : Program} {w : World} {K : PySem.W.Frag} {mg : Str → Option Value} {base : Heap} {a : Ad}
open LQF
def sp_is_lineup (K : PySem.W.Frag) : Sp := fun vs H Q _ => ∃ (a2754 : Addr) (x_value : (List (Int × Str))), vs = [.ref a2754] ∧ Fr E0h H (.ref a2754) ((eL (eT2 eI eS)) x_value) ∧ ∃ r, F_is_lineup x_value = some r ∧ ∀ (G H' : Hp), Ret [] H G H' → Q (.bl (r)) H'
theorem ok_is_lineup (T : Txt K mg a) : FnOk P w K mg base CX0 3 a.f_is_lineup a.d_is_lineup ["value"] (sp_is_lineup K) := by
  refine T.F_is_lineup.ok sc_is_lineup (fun vs H Q E h => ?_) (fun cdv A outer s H0 vs Q E hr h => ?_)
  · obtain ⟨a2754, x_value, rfl, _⟩ := h
    rfl
  · obtain ⟨a2754, x_value, rfl, f2755, r, h, kq⟩ := h
    have nd := sc_is_lineup.nd
    have hu64 := hr.units
    have hu65 := units65 hr
    refine ⟨_, (pss_cons (ps_if (PW.pt (pw_or (pt_cmpR op_notTyB (pe_typeOf rfl T.b_type (pv 0)) (pe_bltn (v := .ty "list") (by rfl) T.b_list (by decide +kernel) rfl) (nomark _)) (pw_or1 (pt_not (pt_chain op_le op_le pe_int (pe_callB (klen (K := K)) (by rfl) T.b_len (by decide +kernel) (pa_cons (pv 0) pa_nil)) (pe_glob (v := .int 60) rfl T.c_MOST_PEOPLE ⟨_, rfl⟩)))))) (pss_one (ps_ret pe_bl)) pss_nil)
      (pss_cons (ps_for PassesOwn.never rfl (kpi_list (K := K) (pv 0)) (pg_name (i := 1) nd rfl (Or.inl rfl)) (pss_one (ps_if (pt_not (pt_val (pe_call (ok_is_colored_integer T) (hr.mono (by decide)) rfl T.g_is_colored_integer T.k_is_colored_integer T.n_is_colored_integer .nil pass0 (pa_cons (pv 1) pa_nil)))) (pss_one (ps_ret pe_bl)) pss_nil)))
      (pss_one (ps_ret (pe_cmpR (keqD (K := K) hu64) (pe_callB (ksorted (K := K)) (by rfl) T.b_sorted (by decide +kernel) (pa_cons (pe_lc (own := [("person", 2), ("_", 3)]) (g := gTup K 2 (gCons (gName 2) (gCons (gName 3) gNil))) (tt := tYes) rfl nd (kpi_list (K := K) (pv 0)) (blkOk_by (own := [("person", 2), ("_", 3)]) (N := ["value", "item", "person", "_"]) (sc := defScope s_is_lineup) (by decide +kernel)) (fun _ _ _ _ _ => (kpg_tup (K := K) rfl (pgs_cons (pg_name (i := 2) nd rfl (Or.inl rfl)) (pgs_cons (pg_name (i := 3) nd rfl (Or.inl rfl)) pgs_nil)))) (fun _ _ _ _ _ => pts_nil) (fun _ _ _ _ _ => (pv 2))) pa_nil)) (pe_listRg rfl rfl T.b_list (prg_1 rfl T.b_range (pe_callB (klen (K := K)) (by rfl) T.b_len (by decide +kernel) (pa_cons (pv 0) pa_nil)))) (nomark _)))))), ?_⟩
    unfold F_is_lineup at h
    have S0 := Sep.start H0
    refine rd_seq ?_
    refine rd_ifS ?_
    refine rd_ttM (fun k H' => k = ((!(decide ("list" = "list"))) || (!((decide ((1 : Int) ≤ (lenI x_value))) && (decide ((lenI x_value) ≤ (60 : Int)))))) ∧ H0 = H') (fun R q => ?_) ?_
    ·
      refine rd_or ?_
      refine rd_test ?_
      refine rd_op ?_
      refine rd_cb ?_
      refine rd_cons ?_
      refine rd_var rfl ?_
      refine rd_nil ?_
      obtain ⟨w2757, h2758, k2759⟩ := li f2755
      refine rd_tyL (S0.sub _ _ h2758) ?_
      refine rd_c ?_
      refine rd_NT ?_
      refine rd_bl ?_
      refine ite_by (fun c2767 => ?_) (fun c2767 => ?_)
      ·
        exact q _ _ ⟨(orT c2767), rfl⟩
      ·
        refine rd_not ?_
        refine rd_test ?_
        refine rd_teM2 (fun k H' => k = .bl ((decide ((1 : Int) ≤ (lenI x_value))) && (decide ((lenI x_value) ≤ (60 : Int)))) ∧ H0 = H') (fun R q => ?_) ?_
        ·
          refine rd_chain ?_
          refine rd_c ?_
          refine rd_cb ?_
          refine rd_cons ?_
          refine rd_var rfl ?_
          refine rd_nil ?_
          obtain ⟨w2761, h2762, k2763⟩ := li f2755
          refine q_len (S0.sub _ _ h2762) k2763 ?_
          refine rd_I0 ?_
          refine rd_bl ?_
          refine ite_by (fun c2765 => ?_) (fun c2765 => ?_)
          ·
            refine rd_c ?_
            refine rd_I0 ?_
            exact q _ _ ⟨(congrArg V.bl (andT c2765 rfl)), rfl⟩
          ·
            exact q _ _ ⟨(congrArg V.bl (andF c2765)), rfl⟩
        rintro _ _ ⟨rfl, rfl⟩
        refine rd_bl ?_
        exact q _ _ ⟨(orF c2767 rfl), rfl⟩
    rintro _ _ ⟨rfl, rfl⟩
    rcases cnd h with ⟨c2873, h⟩ | ⟨c2873, h⟩
    ·
      refine iteY c2873 ?_
      refine rd_ret ?_
      refine rd_c ?_
      cases h
      exact kq _ _ S0.toRet
    ·
      refine iteN c2873 ?_
      refine rd_next ?_
      refine rd_mk ?_
      refine rd_seq ?_
      refine rd_for ?_
      refine rd_iList ?_
      refine rd_var rfl ?_
      obtain ⟨w2768, h2769, k2770⟩ := li f2755
      refine ⟨_, rfl, ⟨_, SqL.of (S0.sub _ _ h2769)⟩, ?_⟩
      obtain ⟨r2788_, h2789, ho2787⟩ := bnd h
      refine q_forC h2789 (w_li k2770) (fun s2772 σ' H' => ∃ (x2784 : Option V) (G2780 : Hp), σ' = [some (.ref a2754), x2784, none, none] ∧ Sep [] H0 G2780 H' [] ∧ Same H0 G2780) ?_ ?_ ?_ ?_
      · exact ⟨_, H0, rfl, S0, Same.refl _⟩
      · rintro s2772 _ H2781 ⟨x2784, G2780, rfl, S2782, sE2783⟩
        exact (S2782.sub _ _ (sE2783 _ _ h2769))
      · rintro i2773 a2771 s2772 c2779 x2775 _ H2781 H2776 h2777 h ⟨x2784, G2780, rfl, S2782, sE2783⟩ h2778 hq2785 kb2786
        have f2755 := f2755.same sE2783
        obtain ⟨rfl, e2790⟩ := h2778
        have f2791 := (e2790 _ h2777).same sE2783
        obtain ⟨a2792, rfl⟩ := fr_tup f2791
        refine rd_nameS (σ' := [some (.ref a2754), some (.ref a2792), none, none]) rfl ?_
        refine rd_ifS ?_
        refine rd_not ?_
        refine rd_tB ?_
        refine rd_call ?_
        refine rd_cons ?_
        refine rd_var rfl ?_
        refine rd_nil ?_
        obtain ⟨y2793, h2794, h⟩ := bnd h
        refine ⟨a2792, a2771, rfl, (f2791.same S2782.sub), y2793, h2794, fun G2795 H2796 R2797 => ?_⟩
        obtain ⟨G2798, S2799, s2800, t2801, l2802⟩ := S2782.ret0 R2797
        have f2755 := f2755.same s2800
        have f2791 := f2791.same s2800
        have sE2783 := sE2783.trans s2800
        refine rd_bl ?_
        rcases cnd h with ⟨c2804, h⟩ | ⟨c2804, h⟩
        ·
          refine iteY c2804 ?_
          refine rd_ret ?_
          refine rd_c ?_
          cases h
          have e2803 := hq2785 _ rfl
          subst e2803
          cases (show some (false) = some _ from ho2787)
          exact kq _ _ S2799.toRet
        ·
          refine iteN c2804 ?_
          refine rd_next ?_
          cases h
          exact ⟨_, rfl, _, G2798, rfl, S2799, sE2783⟩
      rintro r2788 _ H2806 rfl ⟨x2809, G2805, rfl, S2807, sE2808⟩
      have h := ho2787
      have f2755 := f2755.same sE2808
      refine rd_mk ?_
      refine rd_ret ?_
      refine rd_op ?_
      refine rd_cb ?_
      refine rd_cons ?_
      refine rd_lc ?_
      refine rd_iList ?_
      refine rd_var rfl ?_
      obtain ⟨w2810, h2811, k2812⟩ := li f2755
      refine ⟨_, rfl, ⟨_, SqL.of (S2807.sub _ _ h2811)⟩, ?_⟩
      intro D2813 h2814
      obtain ⟨l2837, h2838, h⟩ := bnd h
      refine q_lcL (enc := eI) (F0 := H0) h2838 (w_li k2812) S2807 h2814 S2807.old ?_ ?_ ?_
      · rintro GD2813 HD2813 accD2813 SD2813 sD2813
        exact (SD2813.sub _ _ (sD2813 _ _ h2811))
      · rintro i2816 x2817 a2815 o2826 G2820 H2818 H2819 acc2825 h2823 h S2821 s2822 h2824 T F hT hF
        have f2755 := f2755.same s2822
        have sT2827 := Same.refl G2820
        obtain ⟨rfl, e2829⟩ := h2824
        have f2830 := (e2829 _ h2823).same s2822
        obtain ⟨a2831, rfl⟩ := fr_tup f2830
        obtain ⟨v2832, v2833, h2836, f2834, f2835⟩ := tu2 f2830
        cases fr_int f2834
        cases fr_str f2835
        refine rd_gtup (S2821.sub _ _ h2836) rfl ?_
        refine rd_gcons ?_
        refine rd_nameS (σ' := [some (.ref a2754), x2809, some (.int a2815.1), none]) rfl ?_
        refine rd_gcons ?_
        refine rd_nameS (σ' := [some (.ref a2754), x2809, some (.int a2815.1), some (.str a2815.2)]) rfl ?_
        refine rd_gnil ?_
        refine ⟨rfl, ?_⟩
        refine rd_tyes ?_
        refine iteY rfl ?_
        refine rd_var rfl ?_
        cases h
        exact hT _ _ _ _ rfl S2821 sT2827 (.int _)
      rintro G2839 H2840 w2841 S2842 s2843 f2844 n2845 n2846
      have f2755 := f2755.same s2843
      obtain ⟨G2847, S2848, s2849, f2850⟩ := S2842.fixF 0 rfl (by simp) f2844 n2846
      have f2755 := f2755.same s2849
      refine rd_nil ?_
      obtain ⟨w2851, h2852, k2853⟩ := li f2850
      refine q_sortI (S2848.sub _ _ h2852) k2853 ?_
      refine q_new (F0 := H0) (ds := (sortI l2837).map eI) S2848 (ints_frl _) S2848.old fun a2854 G2855 H2856 S2857 s2858 f2859 => ?_
      have f2755 := f2755.same s2858
      refine rd_lstRgZ ?_
      refine rd_rg1 ?_
      refine rd_cb ?_
      refine rd_cons ?_
      refine rd_var rfl ?_
      refine rd_nil ?_
      obtain ⟨w2860, h2861, k2862⟩ := li f2755
      refine q_len (S2857.sub _ _ h2861) k2862 ?_
      refine ⟨_, rfl, ?_⟩
      obtain ⟨l2863, h2864, h⟩ := bnd h
      refine q_lrg h2864 ?_
      refine q_new (F0 := H0) (ds := l2863.map eI) S2857 (ints_frl l2863) S2857.old fun a2865 G2866 H2867 S2868 s2869 f2870 => ?_
      have f2755 := f2755.same s2869
      have f2859 := f2859.same s2869
      obtain ⟨b2871, h2872, h⟩ := bnd h
      refine q_eqD (f2859.rp.same S2868.sub) (f2870.rp.same S2868.sub) h2872 ?_
      cases h
      exact kq _ _ S2868.toRet
end
end K77

namespace K77
open PySem L2 LX LQ
section
variable {P : Program} {w : World} {K : PySem.W.Frag} {mg : Str → Option Value} {base : Heap} {a : Ad}
open LQF
def sp_check_lineup (K : PySem.W.Frag) : Sp := fun vs H Q _ => ∃ (a2874 : Addr) (x_value : (List (Int × Str))), vs = [.ref a2874] ∧ Fr E0h H (.ref a2874) ((eL (eT2 eI eS)) x_value) ∧ ∃ r, F_check_lineup x_value = some r ∧ ∀ (G H' : Hp), Ret [] H G H' → Q .non H'
theorem ok_check_lineup (T : Txt K mg a) : FnOk P w K mg base CX0 4 a.f_check_lineup a.d_check_lineup ["value"] (sp_check_lineup K) := by
  refine T.F_check_lineup.ok sc_check_lineup (fun vs H Q E h => ?_) (fun cdv A outer s H0 vs Q E hr h => ?_)
  · obtain ⟨a2874, x_value, rfl, _⟩ := h
    rfl
  · obtain ⟨a2874, x_value, rfl, f2875, r, h, kq⟩ := h
    have nd := sc_check_lineup.nd
    have hu64 := hr.units
    have hu65 := units65 hr
    refine ⟨_, (pss_one (ps_if (pt_not (pt_val (pe_call (ok_is_lineup T) (hr.mono (by decide)) rfl T.g_is_lineup T.k_is_lineup T.n_is_lineup .nil pass0 (pa_cons (pv 0) pa_nil)))) pss_never pss_nil)), ?_⟩
    unfold F_check_lineup at h
    have S0 := Sep.start H0
    refine rd_ifS ?_
    refine rd_not ?_
    refine rd_tB ?_
    refine rd_call ?_
    refine rd_cons ?_
    refine rd_var rfl ?_
    refine rd_nil ?_
    obtain ⟨y2876, h2877, h⟩ := bnd h
    refine ⟨a2874, x_value, rfl, (f2875.same S0.sub), y2876, h2877, fun G2878 H2879 R2880 => ?_⟩
    obtain ⟨G2881, S2882, s2883, t2884, l2885⟩ := S0.ret0 R2880
    have f2875 := f2875.same s2883
    refine rd_bl ?_
    rcases cnd h with ⟨c2886, h⟩ | ⟨c2886, h⟩
    ·
      refine iteY c2886 ?_
      cases h
    ·
      refine iteN c2886 ?_
      refine rd_next ?_
      cases h
      exact kq _ _ S2882.toRet
end
end K77

namespace K77
open PySem L2 LX LQ
section
variable {P : Program} {w : World} {K : PySem.W.Frag} {mg : Str → Option Value} {base : Heap} {a : Ad}
open LQF
def sp_is_person (K : PySem.W.Frag) : Sp := fun vs H Q _ => ∃ (a2887 : Addr) (x_lineup : (List (Int × Str))) (x_value : Int), vs = [.ref a2887, (.int x_value)] ∧ Fr E0h H (.ref a2887) ((eL (eT2 eI eS)) x_lineup) ∧ ∃ r, F_is_person x_lineup x_value = some r ∧ ∀ (G H' : Hp), Ret [] H G H' → Q (.bl (r)) H'
theorem ok_is_person (T : Txt K mg a) : FnOk P w K mg base CX0 2 a.f_is_person a.d_is_person ["lineup", "value"] (sp_is_person K) := by
  refine T.F_is_person.ok sc_is_person (fun vs H Q E h => ?_) (fun cdv A outer s H0 vs Q E hr h => ?_)
  · obtain ⟨a2887, x_lineup, x_value, rfl, _⟩ := h
    rfl
  · obtain ⟨a2887, x_lineup, x_value, rfl, f2888, r, h, kq⟩ := h
    have nd := sc_is_person.nd
    have hu64 := hr.units
    have hu65 := units65 hr
    refine ⟨_, (pss_one (ps_ret (pe_and (pe_call (ok_is_integer T) (hr.mono (by decide)) rfl T.g_is_integer T.k_is_integer T.n_is_integer .nil pass0 (pa_cons (pv 1) pa_nil)) (pe_one (pe_chain op_le op_lt pe_int (pv 1) (pe_callB (klen (K := K)) (by rfl) T.b_len (by decide +kernel) (pa_cons (pv 0) pa_nil))))))), ?_⟩
    unfold F_is_person at h
    have S0 := Sep.start H0
    refine rd_ret ?_
    obtain ⟨b2907, h2908, h⟩ := bnd h
    refine rd_teM2 (fun k H' => ∃  (G2909 : Hp), k = .bl b2907 ∧ Sep [] H0 G2909 H' [] ∧ Same H0 G2909) (fun R q => ?_) ?_
    ·
      have sE2889 := Same.refl H0
      have h := h2908
      refine rd_andV ?_
      refine rd_call ?_
      refine rd_cons ?_
      refine rd_var rfl ?_
      refine rd_nil ?_
      obtain ⟨y2890, h2891, h⟩ := bnd h
      refine ⟨x_value, rfl, y2890, h2891, fun G2892 H2893 R2894 => ?_⟩
      obtain ⟨G2895, S2896, s2897, t2898, l2899⟩ := S0.ret0 R2894
      have f2888 := f2888.same s2897
      have sE2889 := sE2889.trans s2897
      refine ⟨_, rfl, ?_⟩
      rcases cnd h with ⟨c2913, h⟩ | ⟨c2913, h⟩
      ·
        refine iteY c2913 ?_
        refine rd_teM2 (fun k H' => k = .bl ((decide ((0 : Int) ≤ x_value)) && (decide (x_value < (lenI x_lineup)))) ∧ H2893 = H') (fun R q => ?_) ?_
        ·
          refine rd_chain ?_
          refine rd_c ?_
          refine rd_var rfl ?_
          refine rd_I0 ?_
          refine rd_bl ?_
          refine ite_by (fun c2905 => ?_) (fun c2905 => ?_)
          ·
            refine rd_cb ?_
            refine rd_cons ?_
            refine rd_var rfl ?_
            refine rd_nil ?_
            obtain ⟨w2901, h2902, k2903⟩ := li f2888
            refine q_len (S2896.sub _ _ h2902) k2903 ?_
            refine rd_I0 ?_
            exact q _ _ ⟨(congrArg V.bl (andT c2905 rfl)), rfl⟩
          ·
            exact q _ _ ⟨(congrArg V.bl (andF c2905)), rfl⟩
        rintro _ _ ⟨rfl, rfl⟩
        cases h
        exact q _ _ ⟨G2895, rfl, S2896, sE2889⟩
      ·
        refine iteN c2913 ?_
        cases h
        exact q _ _ ⟨G2895, rfl, S2896, sE2889⟩
    rintro _ H2910 ⟨G2909, rfl, S2911, s2912⟩
    have f2888 := f2888.same s2912
    cases h
    exact kq _ _ S2911.toRet
end
end K77

namespace K77
open PySem L2 LX LQ
section
variable {P : Program} {w : World} {K : PySem.W.Frag} {mg : Str → Option Value} {base : Heap} {a : Ad}
open LQF
def sp_check_calls (K : PySem.W.Frag) : Sp := fun vs H Q _ => ∃ (a2914 : Addr) (x_lineup : (List (Int × Str))) (a2915 : Addr) (x_value : (List Int)), vs = [.ref a2914, .ref a2915] ∧ Fr E0h H (.ref a2914) ((eL (eT2 eI eS)) x_lineup) ∧ Fr E0h H (.ref a2915) ((eL eI) x_value) ∧ ∃ r, F_check_calls x_lineup x_value = some r ∧ ∀ (G H' : Hp), Ret [] H G H' → Q .non H'
theorem ok_check_calls (T : Txt K mg a) : FnOk P w K mg base CX0 3 a.f_check_calls a.d_check_calls ["lineup", "value"] (sp_check_calls K) := by
  refine T.F_check_calls.ok sc_check_calls (fun vs H Q E h => ?_) (fun cdv A outer s H0 vs Q E hr h => ?_)
  · obtain ⟨a2914, x_lineup, a2915, x_value, rfl, _⟩ := h
    rfl
  · obtain ⟨a2914, x_lineup, a2915, x_value, rfl, f2916, f2917, r, h, kq⟩ := h
    have nd := sc_check_calls.nd
    have hu64 := hr.units
    have hu65 := units65 hr
    refine ⟨_, (pss_cons (ps_if (pt_cmpR op_notTyB (pe_typeOf rfl T.b_type (pv 1)) (pe_bltn (v := .ty "list") (by rfl) T.b_list (by decide +kernel) rfl) (nomark _)) pss_never pss_nil)
      (pss_one (ps_for PassesOwn.never rfl (pi_enum rfl T.b_enumerate (pa_cons (pv 1) pa_nil)) (kpg_tup (K := K) rfl (pgs_cons (pg_name (i := 2) nd rfl (Or.inl rfl)) (pgs_cons (pg_name (i := 3) nd rfl (Or.inl rfl)) pgs_nil))) (pss_one (ps_if (pt_not (pt_val (pe_call (ok_is_person T) (hr.mono (by decide)) rfl T.g_is_person T.k_is_person T.n_is_person .nil pass0 (pa_cons (pv 0) (pa_cons (pv 3) pa_nil))))) pss_never pss_nil))))), ?_⟩
    unfold F_check_calls at h
    have S0 := Sep.start H0
    refine rd_seq ?_
    refine rd_ifS ?_
    refine rd_test ?_
    refine rd_op ?_
    refine rd_cb ?_
    refine rd_cons ?_
    refine rd_var rfl ?_
    refine rd_nil ?_
    obtain ⟨w2918, h2919, k2920⟩ := li f2917
    refine rd_tyL (S0.sub _ _ h2919) ?_
    refine rd_c ?_
    refine rd_NT ?_
    refine rd_bl ?_
    rcases cnd h with ⟨c2978, h⟩ | ⟨c2978, h⟩
    ·
      refine iteY c2978 ?_
      cases h
    ·
      refine iteN c2978 ?_
      refine rd_next ?_
      refine rd_mk ?_
      refine rd_for ?_
      refine rd_iEn ?_
      refine rd_cons ?_
      refine rd_var rfl ?_
      refine rd_nil ?_
      obtain ⟨w2921, h2922, k2923⟩ := li f2917
      refine ⟨_, _, rfl, SqL.of (S0.sub _ _ h2922), ?_⟩
      obtain ⟨r2942, h2943, h⟩ := bnd h
      refine q_forF h2943 (w_en k2923) (fun s2925 σ' H' => ∃ (x2937 : Option V) (x2938 : Option V) (G2933 : Hp), σ' = [some (.ref a2914), some (.ref a2915), x2937, x2938] ∧ Sep [] H0 G2933 H' [] ∧ Same H0 G2933) ?_ ?_ ?_ ?_
      · exact ⟨_, _, H0, rfl, S0, Same.refl _⟩
      · rintro s2925 _ H2934 ⟨x2937, x2938, G2933, rfl, S2935, sE2936⟩
        exact (S2935.sub _ _ (sE2936 _ _ h2922))
      · rintro i2926 a2924 s2925 s2927 x2928 _ H2934 H2929 h2930 h ⟨x2937, x2938, G2933, rfl, S2935, sE2936⟩ h2931
        have f2916 := f2916.same sE2936
        obtain ⟨T2944, v2945, v2946, rfl, h2947, e2949, e2948⟩ := h2931
        obtain ⟨k2950, k2951⟩ := e2948 _ h2930
        replace k2950 := k2950.same sE2936
        replace k2951 := k2951.same sE2936
        obtain ⟨G2952, S2953, s2954, f2955⟩ := S2935.pair h2947 e2949 k2950 k2951
        have f2916 := f2916.same s2954
        have sE2936 := sE2936.trans s2954
        replace f2955 : Fr E0h G2952 (.ref T2944) (eT2 eI eI a2924) := f2955
        obtain ⟨v2956, v2957, h2960, f2958, f2959⟩ := tu2 f2955
        cases fr_int f2958
        cases fr_int f2959
        refine rd_gtup (S2953.sub _ _ h2960) rfl ?_
        refine rd_gcons ?_
        refine rd_nameS (σ' := [some (.ref a2914), some (.ref a2915), some (.int a2924.1), x2938]) rfl ?_
        refine rd_gcons ?_
        refine rd_nameS (σ' := [some (.ref a2914), some (.ref a2915), some (.int a2924.1), some (.int a2924.2)]) rfl ?_
        refine rd_gnil ?_
        refine rd_ifS ?_
        refine rd_not ?_
        refine rd_tB ?_
        refine rd_call ?_
        refine rd_cons ?_
        refine rd_var rfl ?_
        refine rd_cons ?_
        refine rd_var rfl ?_
        refine rd_nil ?_
        obtain ⟨y2961, h2962, h⟩ := bnd h
        refine ⟨a2914, x_lineup, a2924.2, rfl, (f2916.same S2953.sub), y2961, h2962, fun G2963 H2964 R2965 => ?_⟩
        obtain ⟨G2966, S2967, s2968, t2969, l2970⟩ := S2953.ret0 R2965
        have f2916 := f2916.same s2968
        have sE2936 := sE2936.trans s2968
        refine rd_bl ?_
        rcases cnd h with ⟨c2971, h⟩ | ⟨c2971, h⟩
        ·
          refine iteY c2971 ?_
          cases h
        ·
          refine iteN c2971 ?_
          refine rd_next ?_
          cases h
          exact ⟨_, _, G2966, rfl, S2967, sE2936⟩
      rintro _ H2973 ⟨x2976, x2977, G2972, rfl, S2974, sE2975⟩
      have f2916 := f2916.same sE2975
      cases h
      exact kq _ _ S2974.toRet
end
end K77

namespace K77
open PySem L2 LX LQ
section
variable {P : Program} {w : World} {K : PySem.W.Frag} {mg : Str → Option Value} {base : Heap} {a : Ad}
open LQF
def sp_check_round (K : PySem.W.Frag) : Sp := fun vs H Q _ => ∃ (a2979 : Addr) (x_lineup : (List (Int × Str))) (a2980 : Addr) (x_calls : (List Int)), vs = [.ref a2979, .ref a2980] ∧ Fr E0h H (.ref a2979) ((eL (eT2 eI eS)) x_lineup) ∧ Fr E0h H (.ref a2980) ((eL eI) x_calls) ∧ ∃ r, F_check_round x_lineup x_calls = some r ∧ ∀ (G H' : Hp), Ret [] H G H' → Q .non H'
theorem ok_check_round (T : Txt K mg a) : FnOk P w K mg base CX0 5 a.f_check_round a.d_check_round ["lineup", "calls"] (sp_check_round K) := by
  refine T.F_check_round.ok sc_check_round (fun vs H Q E h => ?_) (fun cdv A outer s H0 vs Q E hr h => ?_)
  · obtain ⟨a2979, x_lineup, a2980, x_calls, rfl, _⟩ := h
    rfl
  · obtain ⟨a2979, x_lineup, a2980, x_calls, rfl, f2981, f2982, r, h, kq⟩ := h
    have nd := sc_check_round.nd
    have hu64 := hr.units
    have hu65 := units65 hr
    refine ⟨_, (pss_cons (ps_expr (pe_call (ok_check_lineup T) (hr.mono (by decide)) rfl T.g_check_lineup T.k_check_lineup T.n_check_lineup .nil pass0 (pa_cons (pv 0) pa_nil)))
      (pss_cons (ps_expr (pe_call (ok_check_calls T) (hr.mono (by decide)) rfl T.g_check_calls T.k_check_calls T.n_check_calls .nil pass0 (pa_cons (pv 0) (pa_cons (pv 1) pa_nil))))
      (pss_one (ps_if (pt_not (kpt_truth (K := K) (pv 1) (by intro _; rfl))) pss_never pss_nil)))), ?_⟩
    unfold F_check_round at h
    have S0 := Sep.start H0
    refine rd_seq ?_
    refine rd_drop ?_
    refine rd_call ?_
    refine rd_cons ?_
    refine rd_var rfl ?_
    refine rd_nil ?_
    obtain ⟨y2983, h2984, h⟩ := bnd h
    refine ⟨a2979, x_lineup, rfl, (f2981.same S0.sub), y2983, h2984, fun G2985 H2986 R2987 => ?_⟩
    obtain ⟨G2988, S2989, s2990, t2991, l2992⟩ := S0.ret0 R2987
    have f2981 := f2981.same s2990
    have f2982 := f2982.same s2990
    refine rd_mk ?_
    refine rd_seq ?_
    refine rd_drop ?_
    refine rd_call ?_
    refine rd_cons ?_
    refine rd_var rfl ?_
    refine rd_cons ?_
    refine rd_var rfl ?_
    refine rd_nil ?_
    obtain ⟨y2993, h2994, h⟩ := bnd h
    refine ⟨a2979, x_lineup, a2980, x_calls, rfl, (f2981.same S2989.sub), (f2982.same S2989.sub), y2993, h2994, fun G2995 H2996 R2997 => ?_⟩
    obtain ⟨G2998, S2999, s3000, t3001, l3002⟩ := S2989.ret0 R2997
    have f2981 := f2981.same s3000
    have f2982 := f2982.same s3000
    refine rd_mk ?_
    refine rd_ifS ?_
    refine rd_not ?_
    refine rd_qtru ?_
    refine rd_var rfl ?_
    obtain ⟨w3003, h3004, k3005⟩ := li f2982
    refine q_truL (S2999.sub _ _ h3004) k3005 ?_
    rcases cnd h with ⟨c3006, h⟩ | ⟨c3006, h⟩
    ·
      refine iteY c3006 ?_
      cases h
    ·
      refine iteN c3006 ?_
      refine rd_next ?_
      cases h
      exact kq _ _ S2999.toRet
end
end K77

namespace K77
open PySem L2 LX LQ
section
variable {P : Program} {w : World} {K : PySem.W.Frag} {mg : Str → Option Value} {base : Heap} {a : Ad}
open LQF
def sp_first_other_color (K : PySem.W.Frag) : Sp := fun vs H Q _ => ∃ (a3007 : Addr) (x_lineup : (List (Int × Str))) (x_color : Str), vs = [.ref a3007, (.str x_color)] ∧ Fr E0h H (.ref a3007) ((eL (eT2 eI eS)) x_lineup) ∧ ∃ r, F_first_other_color x_lineup x_color = some r ∧ ∀ (G H' : Hp), Ret [] H G H' → Q (vO V.str (r)) H'
theorem ok_first_other_color (T : Txt K mg a) : FnOk P w K mg base CX0 1 a.f_first_other_color a.d_first_other_color ["lineup", "color"] (sp_first_other_color K) := by
  refine T.F_first_other_color.ok sc_first_other_color (fun vs H Q E h => ?_) (fun cdv A outer s H0 vs Q E hr h => ?_)
  · obtain ⟨a3007, x_lineup, x_color, rfl, _⟩ := h
    rfl
  · obtain ⟨a3007, x_lineup, x_color, rfl, f3008, r, h, kq⟩ := h
    have nd := sc_first_other_color.nd
    have hu64 := hr.units
    have hu65 := units65 hr
    refine ⟨_, (pss_cons (ps_for PassesOwn.never rfl (kpi_list (K := K) (pv 0)) (kpg_tup (K := K) rfl (pgs_cons (pg_name (i := 2) nd rfl (Or.inl rfl)) (pgs_cons (pg_name (i := 3) nd rfl (Or.inl rfl)) pgs_nil))) (pss_one (ps_if (pt_cmpR op_ne (pv 3) (pv 1) (nomark _)) (pss_one (ps_ret (pv 3))) pss_nil)))
      (pss_one (ps_ret pe_non))), ?_⟩
    unfold F_first_other_color at h
    have S0 := Sep.start H0
    refine rd_seq ?_
    refine rd_for ?_
    refine rd_iList ?_
    refine rd_var rfl ?_
    obtain ⟨w3009, h3010, k3011⟩ := li f3008
    refine ⟨_, rfl, ⟨_, SqL.of (S0.sub _ _ h3010)⟩, ?_⟩
    obtain ⟨r3030_, h3031, ho3029⟩ := bnd h
    refine q_forC h3031 (w_li k3011) (fun s3013 σ' H' => ∃ (x3025 : Option V) (x3026 : Option V) (G3021 : Hp), σ' = [some (.ref a3007), some (.str x_color), x3025, x3026] ∧ Sep [] H0 G3021 H' [] ∧ Same H0 G3021) ?_ ?_ ?_ ?_
    · exact ⟨_, _, H0, rfl, S0, Same.refl _⟩
    · rintro s3013 _ H3022 ⟨x3025, x3026, G3021, rfl, S3023, sE3024⟩
      exact (S3023.sub _ _ (sE3024 _ _ h3010))
    · rintro i3014 a3012 s3013 c3020 x3016 _ H3022 H3017 h3018 h ⟨x3025, x3026, G3021, rfl, S3023, sE3024⟩ h3019 hq3027 kb3028
      obtain ⟨rfl, e3032⟩ := h3019
      have f3033 := (e3032 _ h3018).same sE3024
      obtain ⟨a3034, rfl⟩ := fr_tup f3033
      obtain ⟨v3035, v3036, h3039, f3037, f3038⟩ := tu2 f3033
      cases fr_int f3037
      cases fr_str f3038
      refine rd_gtup (S3023.sub _ _ h3039) rfl ?_
      refine rd_gcons ?_
      refine rd_nameS (σ' := [some (.ref a3007), some (.str x_color), some (.int a3012.1), x3026]) rfl ?_
      refine rd_gcons ?_
      refine rd_nameS (σ' := [some (.ref a3007), some (.str x_color), some (.int a3012.1), some (.str a3012.2)]) rfl ?_
      refine rd_gnil ?_
      refine rd_ifS ?_
      refine rd_test ?_
      refine rd_op ?_
      refine rd_var rfl ?_
      refine rd_var rfl ?_
      refine q_neS ?_
      refine rd_bl ?_
      rcases cnd h with ⟨c3041, h⟩ | ⟨c3041, h⟩
      ·
        refine iteY c3041 ?_
        refine rd_ret ?_
        refine rd_var rfl ?_
        cases h
        have e3040 := hq3027 _ rfl
        subst e3040
        cases (show some ((some a3012.2)) = some _ from ho3029)
        exact kq _ _ S3023.toRet
      ·
        refine iteN c3041 ?_
        refine rd_next ?_
        cases h
        exact ⟨_, rfl, _, _, G3021, rfl, S3023, sE3024⟩
    rintro r3030 _ H3043 rfl ⟨x3046, x3047, G3042, rfl, S3044, sE3045⟩
    have h := ho3029
    refine rd_mk ?_
    refine rd_ret ?_
    refine rd_c ?_
    cases h
    exact kq _ _ S3044.toRet
end
end K77

namespace K77
open PySem L2 LX LQ
section
variable {P : Program} {w : World} {K : PySem.W.Frag} {mg : Str → Option Value} {base : Heap} {a : Ad}
open LQF
def sp_colors_by_person (K : PySem.W.Frag) : Sp := fun vs H Q _ => ∃ (a3048 : Addr) (x_lineup : (List (Int × Str))), vs = [.ref a3048] ∧ Fr E0h H (.ref a3048) ((eL (eT2 eI eS)) x_lineup) ∧ ∃ r, F_colors_by_person x_lineup = some r ∧ ∀ (a : Addr) (G H' : Hp), Ret [] H G H' → Fr H G (.ref a) ((eL eS) (r)) → Q (.ref a) H'
theorem ok_colors_by_person (T : Txt K mg a) : FnOk P w K mg base CX0 1 a.f_colors_by_person a.d_colors_by_person ["lineup"] (sp_colors_by_person K) := by
  refine T.F_colors_by_person.ok sc_colors_by_person (fun vs H Q E h => ?_) (fun cdv A outer s H0 vs Q E hr h => ?_)
  · obtain ⟨a3048, x_lineup, rfl, _⟩ := h
    rfl
  · obtain ⟨a3048, x_lineup, rfl, f3049, r, h, kq⟩ := h
    have nd := sc_colors_by_person.nd
    have hu64 := hr.units
    have hu65 := units65 hr
    refine ⟨_, (pss_cons (ps_set (i := 1) nd rfl (Or.inl rfl) (pe_op op_rep (pe_lst (pa_cons pe_str pa_nil)) (pe_callB (klen (K := K)) (by rfl) T.b_len (by decide +kernel) (pa_cons (pv 0) pa_nil))))
      (pss_cons (ps_for PassesOwn.never rfl (kpi_list (K := K) (pv 0)) (kpg_tup (K := K) rfl (pgs_cons (pg_name (i := 2) nd rfl (Or.inl rfl)) (pgs_cons (pg_name (i := 3) nd rfl (Or.inl rfl)) pgs_nil))) (pss_one (ps_asg (pv 3) (pg_sub (pv 1) (pv 2) set_list))))
      (pss_one (ps_ret (pv 1))))), ?_⟩
    unfold F_colors_by_person at h
    have S0 := Sep.start H0
    refine rd_seq ?_
    refine rd_asg ?_
    refine rd_op ?_
    refine rd_lstZ ?_
    refine rd_cons ?_
    refine rd_c ?_
    refine rd_nil ?_
    refine q_lst (F0 := H0) (ds := [eS (Str.ofString "")]) S0 (by show 1 ≤ LIM; decide) (.cons (.str _) .nil) S0.old fun a3050 G3051 H3052 S3053 s3054 f3055 => ?_
    have f3049 := f3049.same s3054
    replace f3055 : Fr H0 G3051 (.ref a3050) ((eL eS) [(Str.ofString "")]) := f3055
    refine rd_cb ?_
    refine rd_cons ?_
    refine rd_var rfl ?_
    refine rd_nil ?_
    obtain ⟨w3056, h3057, k3058⟩ := li f3049
    refine q_len (S3053.sub _ _ h3057) k3058 ?_
    obtain ⟨y3059, h3060, h⟩ := bnd h
    obtain ⟨w3061, h3062, k3063⟩ := li f3055
    refine q_repO S3053 (S3053.sub _ _ h3062) k3063 h3060 fun a3064 w3067 H3065 S3066 n3068 f3069 => ?_
    refine rd_nameS (σ' := [some (.ref a3048), some (.ref a3064), none, none]) rfl ?_
    refine rd_mk ?_
    refine rd_seq ?_
    refine rd_for ?_
    refine rd_iList ?_
    refine rd_var rfl ?_
    obtain ⟨w3070, h3071, k3072⟩ := li f3049
    refine ⟨_, rfl, ⟨_, SqL.of (S3066.sub _ _ h3071)⟩, ?_⟩
    obtain ⟨r3093, h3094, h⟩ := bnd h
    refine q_forF h3094 (w_li k3072) (fun s3074 σ' H' => ∃ (x3086 : Option V) (x3087 : Option V) (w3088 : List V) (G3082 : Hp), σ' = [some (.ref a3048), some (.ref a3064), x3086, x3087] ∧ Sep [] H0 G3082 H' [(a3064, .lst w3088)] ∧ Same G3051 G3082 ∧ FrL H0 G3082 w3088 ((s3074).map eS)) ?_ ?_ ?_ ?_
    · exact ⟨_, _, w3067, G3051, rfl, S3066, Same.refl _, f3069⟩
    · rintro s3074 _ H3083 ⟨x3086, x3087, w3088, G3082, rfl, S3084, sE3085, f3089⟩
      exact (S3084.sub _ _ (sE3085 _ _ h3071))
    · rintro i3075 a3073 s3074 s3076 x3077 _ H3083 H3078 h3079 h ⟨x3086, x3087, w3088, G3082, rfl, S3084, sE3085, f3089⟩ h3080
      obtain ⟨rfl, e3095⟩ := h3080
      have f3096 := (e3095 _ h3079).same sE3085
      obtain ⟨a3097, rfl⟩ := fr_tup f3096
      obtain ⟨v3098, v3099, h3102, f3100, f3101⟩ := tu2 f3096
      cases fr_int f3100
      cases fr_str f3101
      refine rd_gtup (S3084.sub _ _ h3102) rfl ?_
      refine rd_gcons ?_
      refine rd_nameS (σ' := [some (.ref a3048), some (.ref a3064), some (.int a3073.1), x3087]) rfl ?_
      refine rd_gcons ?_
      refine rd_nameS (σ' := [some (.ref a3048), some (.ref a3064), some (.int a3073.1), some (.str a3073.2)]) rfl ?_
      refine rd_gnil ?_
      refine rd_asg ?_
      refine rd_var rfl ?_
      refine rd_sub ?_
      refine rd_var rfl ?_
      refine rd_var rfl ?_
      obtain ⟨l3103, h3104, h⟩ := bnd h
      refine q_setL S3084 0 rfl f3089 (.str _) h3104 fun w3105 H3106 S3107 f3108 => ?_
      have S3107 : Sep [] H0 G3082 H3106 [(a3064, .lst w3105)] := S3107
      cases h
      exact ⟨_, _, w3105, G3082, rfl, S3107, sE3085, f3108⟩
    rintro _ H3110 ⟨x3113, x3114, w3115, G3109, rfl, S3111, sE3112, f3116⟩
    refine rd_mk ?_
    refine rd_ret ?_
    refine rd_var rfl ?_
    obtain ⟨G3117, S3118, s3119, f3120⟩ := S3111.fixL 0 rfl (by simp) f3116 n3068
    cases h
    exact kq a3064 _ _ S3118.toRet f3120
end
end K77

namespace K77
open PySem L2 LX LQ
section
variable {P : Program} {w : World} {K : PySem.W.Frag} {mg : Str → Option Value} {base : Heap} {a : Ad}
open LQF
def sp_apply_call (K : PySem.W.Frag) : Sp := fun vs H Q _ => ∃ (a3121 : Addr) (x_lineup : (List (Int × Str))) (x_person : Int), vs = [.ref a3121, (.int x_person)] ∧ Fr E0h H (.ref a3121) ((eL (eT2 eI eS)) x_lineup) ∧ ∃ r, F_apply_call x_lineup x_person = some r ∧ ∀ (a : Addr) (G H' : Hp), Ret [] H G H' → Fr H G (.ref a) ((eT2 (eL (eT2 eI eS)) (eO eS)) (r)) → Q (.ref a) H'
theorem ok_apply_call (T : Txt K mg a) : FnOk P w K mg base CX0 2 a.f_apply_call a.d_apply_call ["lineup", "person"] (sp_apply_call K) := by
  refine T.F_apply_call.ok sc_apply_call (fun vs H Q E h => ?_) (fun cdv A outer s H0 vs Q E hr h => ?_)
  · obtain ⟨a3121, x_lineup, x_person, rfl, _⟩ := h
    rfl
  · obtain ⟨a3121, x_lineup, x_person, rfl, f3122, r, h, kq⟩ := h
    have nd := sc_apply_call.nd
    have hu64 := hr.units
    have hu65 := units65 hr
    refine ⟨_, (pss_cons (ps_set (i := 2) nd rfl (Or.inl rfl) (pe_ix (kix_list (K := K)) (pe_call (ok_colors_by_person T) (hr.mono (by decide)) rfl T.g_colors_by_person T.k_colors_by_person T.n_colors_by_person .nil pass0 (pa_cons (pv 0) pa_nil)) (pv 1) (fun _ _ => rfl)))
      (pss_cons (ps_set (i := 3) nd rfl (Or.inl rfl) (pe_call (ok_first_other_color T) (hr.mono (by decide)) rfl T.g_first_other_color T.k_first_other_color T.n_first_other_color .nil pass0 (pa_cons (pv 0) (pa_cons (pv 2) pa_nil))))
      (pss_cons (ps_setLc (i := 4) (own := [("pair", 5)]) (g := gName 5) rfl nd rfl rfl (sw_true rfl rfl rfl (by decide +kernel)) (kpi_list (K := K) (pv 0)) (blkOk_by (own := [("pair", 5)]) (N := ["lineup", "person", "color", "taken", "others", "pair"]) (sc := defScope s_apply_call) (by decide +kernel)) (fun _ _ _ _ _ => (pg_name (i := 5) nd rfl (Or.inl rfl))) (fun _ _ _ _ _ => pts_one (pt_cmpR op_ne (pe_ix (kix_tup (K := K)) (pv 5) pe_int (fun _ _ => rfl)) (pv 1) (nomark _))) (fun _ _ _ _ _ => (pv 5)))
      (pss_one (ps_ret (pe_tup (pa_cons (pe_op op_cat (pe_lst (pa_cons (pe_tup (pa_cons (pv 1) (pa_cons (pe_ifExp (pt_cmpR kisN (pv 3) pe_non (nomark _)) (pv 2) (pv 3)) pa_nil))) pa_nil)) (pv 4)) (pa_cons (pv 3) pa_nil)))))))), ?_⟩
    unfold F_apply_call at h
    have S0 := Sep.start H0
    refine rd_seq ?_
    refine rd_asg ?_
    refine rd_op ?_
    refine rd_call ?_
    refine rd_cons ?_
    refine rd_var rfl ?_
    refine rd_nil ?_
    obtain ⟨y3123, h3124, h⟩ := bnd h
    refine ⟨a3121, x_lineup, rfl, (f3122.same S0.sub), y3123, h3124, fun a3128 G3125 H3126 R3127 f3129 => ?_⟩
    obtain ⟨G3130, S3131, s3132, t3133, l3134⟩ := S0.ret0 R3127
    have f3122 := f3122.same s3132
    have f3129 := t3133 _ _ f3129
    refine rd_var rfl ?_
    obtain ⟨y3135, h3136, h⟩ := bnd h
    obtain ⟨w3137, h3138, k3139⟩ := li f3129
    refine q_ixL (S3131.sub _ _ h3138) k3139 h3136 fun v3140 f3141 => ?_
    cases fr_str f3141
    refine rd_nameS (σ' := [some (.ref a3121), some (.int x_person), some (.str y3135), none, none, none]) rfl ?_
    refine rd_mk ?_
    refine rd_seq ?_
    refine rd_asg ?_
    refine rd_call ?_
    refine rd_cons ?_
    refine rd_var rfl ?_
    refine rd_cons ?_
    refine rd_var rfl ?_
    refine rd_nil ?_
    obtain ⟨y3142, h3143, h⟩ := bnd h
    refine ⟨a3121, x_lineup, y3135, rfl, (f3122.same S3131.sub), y3142, h3143, fun G3144 H3145 R3146 => ?_⟩
    obtain ⟨G3147, S3148, s3149, t3150, l3151⟩ := S3131.ret0 R3146
    have f3122 := f3122.same s3149
    refine rd_nameS (σ' := [some (.ref a3121), some (.int x_person), some (.str y3135), some (vO V.str y3142), none, none]) rfl ?_
    refine rd_mk ?_
    refine rd_seq ?_
    refine rd_asg ?_
    refine rd_lc ?_
    refine rd_iList ?_
    refine rd_var rfl ?_
    obtain ⟨w3152, h3153, k3154⟩ := li f3122
    refine ⟨_, rfl, ⟨_, SqL.of (S3148.sub _ _ h3153)⟩, ?_⟩
    intro D3155 h3156
    obtain ⟨l3179, h3180, h⟩ := bnd h
    refine q_lcL (enc := (eT2 eI eS)) (F0 := H0) h3180 (w_li k3154) S3148 h3156 S3148.old ?_ ?_ ?_
    · rintro GD3155 HD3155 accD3155 SD3155 sD3155
      exact (SD3155.sub _ _ (sD3155 _ _ h3153))
    · rintro i3158 x3159 a3157 o3168 G3162 H3160 H3161 acc3167 h3165 h S3163 s3164 h3166 T F hT hF
      have f3122 := f3122.same s3164
      have sT3169 := Same.refl G3162
      obtain ⟨rfl, e3171⟩ := h3166
      have f3172 := (e3171 _ h3165).same s3164
      obtain ⟨a3173, rfl⟩ := fr_tup f3172
      refine rd_nameS (σ' := [some (.ref a3121), some (.int x_person), some (.str y3135), some (vO V.str y3142), none, some (.ref a3173)]) rfl ?_
      refine ⟨rfl, ?_⟩
      refine rd_test ?_
      refine rd_op ?_
      refine rd_op ?_
      refine rd_var rfl ?_
      refine rd_c ?_
      obtain ⟨v3174, v3175, h3178, f3176, f3177⟩ := tu2 f3172
      cases fr_int f3176
      cases fr_str f3177
      refine rd_ixT (S3163.sub _ _ h3178) rfl ?_
      refine rd_var rfl ?_
      refine q_neI ?_
      refine rd_bl ?_
      rcases cnd h with ⟨c3181, h⟩ | ⟨c3181, h⟩
      ·
        refine iteY c3181 ?_
        refine rd_var rfl ?_
        cases h
        exact hT _ _ _ _ rfl S3163 sT3169 (f3172.imm ((flT2 flI flS) _))
      ·
        refine iteN c3181 ?_
        cases h
        exact hF _ _ rfl S3163 sT3169
    rintro G3182 H3183 w3184 S3185 s3186 f3187 n3188 n3189
    have f3122 := f3122.same s3186
    obtain ⟨G3190, S3191, s3192, f3193⟩ := S3185.fixF 0 rfl (by simp) f3187 n3189
    have f3122 := f3122.same s3192
    refine rd_nameS (σ' := [some (.ref a3121), some (.int x_person), some (.str y3135), some (vO V.str y3142), some (.ref D3155), none]) rfl ?_
    refine rd_mk ?_
    refine rd_ret ?_
    refine rd_tupZ ?_
    refine rd_cons ?_
    refine rd_op ?_
    refine rd_lstZ ?_
    refine rd_cons ?_
    refine rd_tupZ ?_
    refine rd_cons ?_
    refine rd_var rfl ?_
    refine rd_cons ?_
    obtain ⟨y3201, h3202, h⟩ := bnd h
    refine rd_teM2 (fun k H' => ∃  (G3203 : Hp), k = (.str y3201) ∧ Sep [] H0 G3203 H' [] ∧ Same G3190 G3203) (fun R q => ?_) ?_
    ·
      have sE3194 := Same.refl G3190
      have h := h3202
      refine rd_ifE ?_
      refine rd_test ?_
      refine rd_op ?_
      refine rd_var rfl ?_
      refine rd_c ?_
      refine q_isNS ?_
      refine rd_bl ?_
      rcases cnd h with ⟨c3207, h⟩ | ⟨c3207, h⟩
      ·
        refine iteY c3207 ?_
        refine rd_var rfl ?_
        cases h
        exact q _ _ ⟨G3190, rfl, S3191, sE3194⟩
      ·
        refine iteN c3207 ?_
        obtain ⟨o3198, h3199, h⟩ := bnd h
        have e3200 : (vO V.str y3142) = (.str o3198) := by rw [h3199]; rfl
        refine rd_varE rfl e3200 ?_
        cases h
        exact q _ _ ⟨G3190, rfl, S3191, sE3194⟩
    rintro _ H3204 ⟨G3203, rfl, S3205, s3206⟩
    have f3193 := f3193.same s3206
    refine rd_nil ?_
    refine q_tup (F0 := H0) (ds := [eI x_person, eS y3201]) S3205 (by show 2 ≤ LIM; decide) (.cons (.int _) (.cons (.str _) .nil)) fun a3208 G3209 H3210 S3211 s3212 f3213 => ?_
    have f3193 := f3193.same s3212
    replace f3213 : Fr H0 G3209 (.ref a3208) ((eT2 eI eS) (x_person, y3201)) := f3213
    refine rd_nil ?_
    refine q_lst (F0 := H0) (ds := [(eT2 eI eS) (x_person, y3201)]) S3211 (by show 1 ≤ LIM; decide) (.cons f3213 .nil) S3211.old fun a3214 G3215 H3216 S3217 s3218 f3219 => ?_
    have f3193 := f3193.same s3218
    replace f3219 : Fr H0 G3215 (.ref a3214) ((eL (eT2 eI eS)) [(x_person, y3201)]) := f3219
    refine rd_var rfl ?_
    obtain ⟨y3220, h3221, h⟩ := bnd h
    obtain ⟨w3222, h3223, k3224⟩ := li f3219
    obtain ⟨w3225, h3226, k3227⟩ := li f3193
    refine q_cat S3217 (S3217.sub _ _ h3223) k3224 (S3217.sub _ _ h3226) k3227 h3221 S3217.old fun a3228 G3231 H3229 S3230 s3232 f3233 => ?_
    have f3193 := f3193.same s3232
    refine rd_cons ?_
    refine rd_var rfl ?_
    refine rd_nil ?_
    refine q_tup (F0 := H0) (ds := [(eL (eT2 eI eS)) y3220, (eO eS) y3142]) S3230 (by show 2 ≤ LIM; decide) (.cons f3233 (.cons (oS_fr y3142) .nil)) fun a3234 G3235 H3236 S3237 s3238 f3239 => ?_
    have f3193 := f3193.same s3238
    replace f3239 : Fr H0 G3235 (.ref a3234) ((eT2 (eL (eT2 eI eS)) (eO eS)) (y3220, y3142)) := f3239
    cases h
    exact kq a3234 _ _ S3237.toRet f3239
end
end K77

namespace K77
open PySem L2 LX LQ
section
variable {P : Program} {w : World} {K : PySem.W.Frag} {mg : Str → Option Value} {base : Heap} {a : Ad}
open LQF
def sp_lineup_after (K : PySem.W.Frag) : Sp := fun vs H Q _ => ∃ (a3240 : Addr) (x_lineup : (List (Int × Str))) (a3241 : Addr) (x_calls : (List Int)), vs = [.ref a3240, .ref a3241] ∧ Fr E0h H (.ref a3240) ((eL (eT2 eI eS)) x_lineup) ∧ Fr E0h H (.ref a3241) ((eL eI) x_calls) ∧ ∃ r, F_lineup_after x_lineup x_calls = some r ∧ ∀ (a : Addr) (G H' : Hp), Ret [] H G H' → Fr H G (.ref a) ((eL (eT2 eI eS)) (r)) → Q (.ref a) H'
theorem ok_lineup_after (T : Txt K mg a) : FnOk P w K mg base CX0 5 a.f_lineup_after a.d_lineup_after ["lineup", "calls"] (sp_lineup_after K) := by
  refine T.F_lineup_after.ok sc_lineup_after (fun vs H Q E h => ?_) (fun cdv A outer s H0 vs Q E hr h => ?_)
  · obtain ⟨a3240, x_lineup, a3241, x_calls, rfl, _⟩ := h
    rfl
  · obtain ⟨a3240, x_lineup, a3241, x_calls, rfl, f3242, f3243, r, h, kq⟩ := h
    have nd := sc_lineup_after.nd
    have hu64 := hr.units
    have hu65 := units65 hr
    refine ⟨_, (pss_cons (ps_expr (pe_call (ok_check_lineup T) (hr.mono (by decide)) rfl T.g_check_lineup T.k_check_lineup T.n_check_lineup .nil pass0 (pa_cons (pv 0) pa_nil)))
      (pss_cons (ps_expr (pe_call (ok_check_calls T) (hr.mono (by decide)) rfl T.g_check_calls T.k_check_calls T.n_check_calls .nil pass0 (pa_cons (pv 0) (pa_cons (pv 1) pa_nil))))
      (pss_cons (ps_set (i := 2) nd rfl (Or.inl rfl) (pe_callTy (klist (K := K)) (by rfl) T.b_list (by decide +kernel) (pa_cons (pv 0) pa_nil)))
      (pss_cons (ps_for PassesOwn.never rfl (kpi_list (K := K) (pv 1)) (pg_name (i := 3) nd rfl (Or.inl rfl)) (pss_one (ps_asg (pe_call (ok_apply_call T) (hr.mono (by decide)) rfl T.g_apply_call T.k_apply_call T.n_apply_call .nil pass0 (pa_cons (pv 2) (pa_cons (pv 3) pa_nil))) (kpg_tup (K := K) rfl (pgs_cons (pg_name (i := 2) nd rfl (Or.inl rfl)) (pgs_cons (pg_name (i := 4) nd rfl (Or.inl rfl)) pgs_nil))))))
      (pss_one (ps_ret (pv 2))))))), ?_⟩
    unfold F_lineup_after at h
    have S0 := Sep.start H0
    refine rd_seq ?_
    refine rd_drop ?_
    refine rd_call ?_
    refine rd_cons ?_
    refine rd_var rfl ?_
    refine rd_nil ?_
    obtain ⟨y3244, h3245, h⟩ := bnd h
    refine ⟨a3240, x_lineup, rfl, (f3242.same S0.sub), y3244, h3245, fun G3246 H3247 R3248 => ?_⟩
    obtain ⟨G3249, S3250, s3251, t3252, l3253⟩ := S0.ret0 R3248
    have f3242 := f3242.same s3251
    have f3243 := f3243.same s3251
    refine rd_mk ?_
    refine rd_seq ?_
    refine rd_drop ?_
    refine rd_call ?_
    refine rd_cons ?_
    refine rd_var rfl ?_
    refine rd_cons ?_
    refine rd_var rfl ?_
    refine rd_nil ?_
    obtain ⟨y3254, h3255, h⟩ := bnd h
    refine ⟨a3240, x_lineup, a3241, x_calls, rfl, (f3242.same S3250.sub), (f3243.same S3250.sub), y3254, h3255, fun G3256 H3257 R3258 => ?_⟩
    obtain ⟨G3259, S3260, s3261, t3262, l3263⟩ := S3250.ret0 R3258
    have f3242 := f3242.same s3261
    have f3243 := f3243.same s3261
    refine rd_mk ?_
    refine rd_seq ?_
    refine rd_asg ?_
    refine rd_cb ?_
    refine rd_cons ?_
    refine rd_var rfl ?_
    refine rd_nil ?_
    obtain ⟨w3264, h3265, k3266⟩ := li f3242
    refine q_list S3260 (S3260.sub _ _ h3265) (k3266.imm (flat_map (flT2 flI flS) _)) S3260.old fun a3267 G3268 H3269 S3270 s3271 f3272 => ?_
    have f3242 := f3242.same s3271
    have f3243 := f3243.same s3271
    refine rd_nameS (σ' := [some (.ref a3240), some (.ref a3241), some (.ref a3267), none, none]) rfl ?_
    refine rd_mk ?_
    refine rd_seq ?_
    refine rd_for ?_
    refine rd_iList ?_
    refine rd_var rfl ?_
    obtain ⟨w3273, h3274, k3275⟩ := li f3243
    refine ⟨_, rfl, ⟨_, SqL.of (S3270.sub _ _ h3274)⟩, ?_⟩
    obtain ⟨r3296, h3297, h⟩ := bnd h
    refine q_forF h3297 (w_li k3275) (fun s3277 σ' H' => ∃ (x3289 : Option V) (x3290 : Option V) (a3291 : Addr) (G3285 : Hp), σ' = [some (.ref a3240), some (.ref a3241), some (.ref a3291), x3289, x3290] ∧ Sep [] H0 G3285 H' [] ∧ Same G3268 G3285 ∧ Fr H0 G3285 (.ref a3291) ((eL (eT2 eI eS)) s3277)) ?_ ?_ ?_ ?_
    · exact ⟨_, _, a3267, G3268, rfl, S3270, Same.refl _, f3272⟩
    · rintro s3277 _ H3286 ⟨x3289, x3290, a3291, G3285, rfl, S3287, sE3288, f3292⟩
      exact (S3287.sub _ _ (sE3288 _ _ h3274))
    · rintro i3278 a3276 s3277 s3279 x3280 _ H3286 H3281 h3282 h ⟨x3289, x3290, a3291, G3285, rfl, S3287, sE3288, f3292⟩ h3283
      obtain ⟨rfl, e3298⟩ := h3283
      have f3299 := (e3298 _ h3282).same sE3288
      cases fr_int f3299
      refine rd_nameS (σ' := [some (.ref a3240), some (.ref a3241), some (.ref a3291), some (.int a3276), x3290]) rfl ?_
      refine rd_asg ?_
      refine rd_call ?_
      refine rd_cons ?_
      refine rd_var rfl ?_
      refine rd_cons ?_
      refine rd_var rfl ?_
      refine rd_nil ?_
      obtain ⟨y3300, h3301, h⟩ := bnd h
      refine ⟨a3291, s3277, a3276, rfl, (f3292.rp.same S3287.sub), y3300, h3301, fun a3305 G3302 H3303 R3304 f3306 => ?_⟩
      obtain ⟨G3307, S3308, s3309, t3310, l3311⟩ := S3287.ret0 R3304
      have f3292 := f3292.same s3309
      have sE3288 := sE3288.trans s3309
      have f3306 := t3310 _ _ f3306
      obtain ⟨v3312, v3313, h3316, f3314, f3315⟩ := tu2 f3306
      obtain ⟨a3317, rfl⟩ := fr_lst f3314
      cases fr_oS f3315
      refine rd_gtup (S3308.sub _ _ h3316) rfl ?_
      refine rd_gcons ?_
      refine rd_nameS (σ' := [some (.ref a3240), some (.ref a3241), some (.ref a3317), some (.int a3276), x3290]) rfl ?_
      refine rd_gcons ?_
      refine rd_nameS (σ' := [some (.ref a3240), some (.ref a3241), some (.ref a3317), some (.int a3276), some (vO V.str y3300.2)]) rfl ?_
      refine rd_gnil ?_
      cases h
      exact ⟨_, _, a3317, G3307, rfl, S3308, sE3288, f3314⟩
    rintro _ H3319 ⟨x3322, x3323, a3324, G3318, rfl, S3320, sE3321, f3325⟩
    refine rd_mk ?_
    refine rd_ret ?_
    refine rd_var rfl ?_
    cases h
    exact kq a3324 _ _ S3320.toRet f3325
end
end K77

namespace K77
open PySem L2 LX LQ
section
variable {P : Program} {w : World} {K : PySem.W.Frag} {mg : Str → Option Value} {base : Heap} {a : Ad}
open LQF
def sp_lineups_by_round (K : PySem.W.Frag) : Sp := fun vs H Q _ => ∃ (a3326 : Addr) (x_lineup : (List (Int × Str))) (a3327 : Addr) (x_calls : (List Int)), vs = [.ref a3326, .ref a3327] ∧ Fr E0h H (.ref a3326) ((eL (eT2 eI eS)) x_lineup) ∧ Fr E0h H (.ref a3327) ((eL eI) x_calls) ∧ ∃ r, F_lineups_by_round x_lineup x_calls = some r ∧ ∀ (a : Addr) (G H' : Hp), Ret [] H G H' → Fr H G (.ref a) ((eT2 (eL (eL (eT2 eI eS))) eI) (r)) → Q (.ref a) H'
theorem ok_lineups_by_round (T : Txt K mg a) : FnOk P w K mg base CX0 6 a.f_lineups_by_round a.d_lineups_by_round ["lineup", "calls"] (sp_lineups_by_round K) := by
  refine T.F_lineups_by_round.ok sc_lineups_by_round (fun vs H Q E h => ?_) (fun cdv A outer s H0 vs Q E hr h => ?_)
  · obtain ⟨a3326, x_lineup, a3327, x_calls, rfl, _⟩ := h
    rfl
  · obtain ⟨a3326, x_lineup, a3327, x_calls, rfl, f3328, f3329, r, h, kq⟩ := h
    have nd := sc_lineups_by_round.nd
    have hu64 := hr.units
    have hu65 := units65 hr
    refine ⟨_, (pss_cons (ps_set (i := 2) nd rfl (Or.inl rfl) (pe_lst pa_nil))
      (pss_cons (ps_set (i := 3) nd rfl (Or.inl rfl) (pe_callTy (klist (K := K)) (by rfl) T.b_list (by decide +kernel) (pa_cons (pv 0) pa_nil)))
      (pss_cons (ps_while PassesOwn.never (pt_cmpR (knotInD (K := K) hu65) (pv 3) (pv 2) rfl) (pss_cons (ps_expr (kbm (K := K) PySem.F.plainAttrs_list PySem.F.slot_list_append PySem.F.type_list_append mt_append (pv 2) (pa_cons (pv 3) pa_nil)))
      (pss_one (ps_set (i := 3) nd rfl (Or.inl rfl) (pe_call (ok_lineup_after T) (hr.mono (by decide)) rfl T.g_lineup_after T.k_lineup_after T.n_lineup_after .nil pass0 (pa_cons (pv 3) (pa_cons (pv 1) pa_nil)))))))
      (pss_one (ps_ret (pe_tup (pa_cons (pv 2) (pa_cons (kbm (K := K) PySem.F.plainAttrs_list PySem.F.slot_list_index PySem.F.type_list_index (kindexD (K := K) hu65) (pv 2) (pa_cons (pv 3) pa_nil)) pa_nil)))))))), ?_⟩
    unfold F_lineups_by_round at h
    have S0 := Sep.start H0
    refine rd_seq ?_
    refine rd_asg ?_
    refine rd_lstZ ?_
    refine rd_nil ?_
    refine q_lstO S0 (by show 0 ≤ LIM; decide) fun a3330 H3331 S3332 n3333 => ?_
    have f3334 : FrL H0 H0 [] (([] : (List (List (Int × Str)))).map (eL (eT2 eI eS))) := .nil
    refine rd_nameS (σ' := [some (.ref a3326), some (.ref a3327), some (.ref a3330), none]) rfl ?_
    refine rd_mk ?_
    refine rd_seq ?_
    refine rd_asg ?_
    refine rd_cb ?_
    refine rd_cons ?_
    refine rd_var rfl ?_
    refine rd_nil ?_
    obtain ⟨w3335, h3336, k3337⟩ := li f3328
    refine q_list S3332 (S3332.sub _ _ h3336) (k3337.imm (flat_map (flT2 flI flS) _)) S3332.old fun a3338 G3339 H3340 S3341 s3342 f3343 => ?_
    have f3328 := f3328.same s3342
    have f3329 := f3329.same s3342
    have f3334 := f3334.same s3342
    refine rd_nameS (σ' := [some (.ref a3326), some (.ref a3327), some (.ref a3330), some (.ref a3338)]) rfl ?_
    refine rd_mk ?_
    refine rd_seq ?_
    obtain ⟨r3360, h3361, h⟩ := bnd h
    refine q_whileF h3361 (fun s3344 σ' H' => ∃ (a3353 : Addr) (w3355 : List V) (G3349 : Hp), σ' = [some (.ref a3326), some (.ref a3327), some (.ref a3330), some (.ref a3353)] ∧ Sep [] H0 G3349 H' [(a3330, .lst w3355)] ∧ Same G3339 G3349 ∧ Fr H0 G3349 (.ref a3353) ((eL (eT2 eI eS)) s3344.1) ∧ FrL H0 G3349 w3355 ((s3344.2).map (eL (eT2 eI eS)))) ?_ ?_ ?_ ?_
    · exact ⟨a3338, [], G3339, rfl, S3341, Same.refl _, f3343, f3334⟩
    · rintro s3344 t3346 _ H3350 h ⟨a3353, w3355, G3349, rfl, S3351, sE3352, f3354, f3356⟩ Q Q3348
      have f3329 := f3329.same sE3352
      refine rd_test ?_
      refine rd_op ?_
      refine rd_var rfl ?_
      refine rd_var rfl ?_
      obtain ⟨b3363, h3364, h⟩ := bnd h
      refine q_niD (f3354.rp.same S3351.sub) (S3351.rd 0 rfl f3356) h3364 ?_
      refine rd_bl ?_
      cases h
      exact Q3348 _ ⟨a3353, w3355, G3349, rfl, S3351, sE3352, f3354, f3356⟩
    · rintro s3344 s3345 _ H3350 h h3362 ⟨a3353, w3355, G3349, rfl, S3351, sE3352, f3354, f3356⟩
      have f3329 := f3329.same sE3352
      refine rd_seq ?_
      refine rd_drop ?_
      refine rd_bm ?_
      refine rd_var rfl ?_
      refine ⟨Or.inl ⟨rfl, _, SqL.of (S3351.get 0 rfl)⟩, ?_⟩
      refine rd_cons ?_
      refine rd_var rfl ?_
      refine rd_nil ?_
      obtain ⟨l3365, h3366, h⟩ := bnd h
      refine q_app S3351 0 rfl f3356 f3354 h3366 fun w3367 H3368 S3369 f3370 => ?_
      have S3369 : Sep [] H0 G3349 H3368 [(a3330, .lst w3367)] := S3369
      refine rd_mk ?_
      refine rd_asg ?_
      refine rd_call ?_
      refine rd_cons ?_
      refine rd_var rfl ?_
      refine rd_cons ?_
      refine rd_var rfl ?_
      refine rd_nil ?_
      obtain ⟨y3371, h3372, h⟩ := bnd h
      refine ⟨a3353, s3344.1, a3327, x_calls, rfl, (f3354.rp.same S3369.sub), (f3329.same S3369.sub), y3371, h3372, fun a3376 G3373 H3374 R3375 f3377 => ?_⟩
      obtain ⟨G3378, S3379, s3380, t3381, l3382⟩ := S3369.ret0 R3375
      have f3329 := f3329.same s3380
      have f3354 := f3354.same s3380
      have f3370 := f3370.same s3380
      have sE3352 := sE3352.trans s3380
      have f3377 := t3381 _ _ f3377
      refine rd_nameS (σ' := [some (.ref a3326), some (.ref a3327), some (.ref a3330), some (.ref a3376)]) rfl ?_
      cases h
      exact ⟨a3376, w3367, G3378, rfl, S3379, sE3352, f3377, f3370⟩
    rintro _ H3384 ⟨a3387, w3389, G3383, rfl, S3385, sE3386, f3388, f3390⟩
    have f3329 := f3329.same sE3386
    refine rd_mk ?_
    refine rd_ret ?_
    refine rd_tupZ ?_
    refine rd_cons ?_
    refine rd_var rfl ?_
    refine rd_cons ?_
    refine rd_bm ?_
    refine rd_var rfl ?_
    refine ⟨Or.inl ⟨rfl, _, SqL.of (S3385.get 0 rfl)⟩, ?_⟩
    refine rd_cons ?_
    refine rd_var rfl ?_
    refine rd_nil ?_
    obtain ⟨y3391, h3392, h⟩ := bnd h
    refine q_idxD (f3388.rp.same S3385.sub) (S3385.rd 0 rfl f3390) h3392 ?_
    refine rd_nil ?_
    obtain ⟨G3393, S3394, s3395, f3396⟩ := S3385.fixL 0 rfl (by simp) f3390 n3333
    have f3388 := f3388.same s3395
    refine q_tup (F0 := H0) (ds := [(eL (eL (eT2 eI eS))) r3360.2, eI y3391]) S3394 (by show 2 ≤ LIM; decide) (.cons f3396 (.cons (.int _) .nil)) fun a3397 G3398 H3399 S3400 s3401 f3402 => ?_
    have f3396 := f3396.same s3401
    have f3388 := f3388.same s3401
    replace f3402 : Fr H0 G3398 (.ref a3397) ((eT2 (eL (eL (eT2 eI eS))) eI) (r3360.2, y3391)) := f3402
    cases h
    exact kq a3397 _ _ S3400.toRet f3402
end
end K77

namespace K77
open PySem L2 LX LQ
section
variable {P : Program} {w : World} {K : PySem.W.Frag} {mg : Str → Option Value} {base : Heap} {a : Ad}
open LQF
def sp_rounds_until_one_color (K : PySem.W.Frag) : Sp := fun vs H Q _ => ∃ (a3403 : Addr) (x_lineup : (List (Int × Str))) (a3404 : Addr) (x_calls : (List Int)), vs = [.ref a3403, .ref a3404] ∧ Fr E0h H (.ref a3403) ((eL (eT2 eI eS)) x_lineup) ∧ Fr E0h H (.ref a3404) ((eL eI) x_calls) ∧ ∃ r, F_rounds_until_one_color x_lineup x_calls = some r ∧ ∀ (G H' : Hp), Ret [] H G H' → Q (vO V.int (r)) H'
theorem ok_rounds_until_one_color (T : Txt K mg a) : FnOk P w K mg base CX0 7 a.f_rounds_until_one_color a.d_rounds_until_one_color ["lineup", "calls"] (sp_rounds_until_one_color K) := by
  refine T.F_rounds_until_one_color.ok sc_rounds_until_one_color (fun vs H Q E h => ?_) (fun cdv A outer s H0 vs Q E hr h => ?_)
  · obtain ⟨a3403, x_lineup, a3404, x_calls, rfl, _⟩ := h
    rfl
  · obtain ⟨a3403, x_lineup, a3404, x_calls, rfl, f3405, f3406, r, h, kq⟩ := h
    have nd := sc_rounds_until_one_color.nd
    have hu64 := hr.units
    have hu65 := units65 hr
    refine ⟨_, (pss_cons (ps_expr (pe_call (ok_check_round T) (hr.mono (by decide)) rfl T.g_check_round T.k_check_round T.n_check_round .nil pass0 (pa_cons (pv 0) (pa_cons (pv 1) pa_nil))))
      (pss_cons (ps_asg (pe_call (ok_lineups_by_round T) (hr.mono (by decide)) rfl T.g_lineups_by_round T.k_lineups_by_round T.n_lineups_by_round .nil pass0 (pa_cons (pv 0) (pa_cons (pv 1) pa_nil))) (kpg_tup (K := K) rfl (pgs_cons (pg_name (i := 2) nd rfl (Or.inl rfl)) (pgs_cons (pg_name (i := 3) nd rfl (Or.inl rfl)) pgs_nil))))
      (pss_cons (ps_for PassesOwn.never rfl (pi_enum rfl T.b_enumerate (pa_cons (pv 2) pa_nil)) (kpg_tup (K := K) rfl (pgs_cons (pg_name (i := 4) nd rfl (Or.inl rfl)) (pgs_cons (pg_name (i := 5) nd rfl (Or.inl rfl)) pgs_nil))) (pss_one (ps_if (pt_cmpR kisN (pe_call (ok_first_other_color T) (hr.mono (by decide)) rfl T.g_first_other_color T.k_first_other_color T.n_first_other_color .nil pass0 (pa_cons (pv 5) (pa_cons (pe_ix (kix_tup (K := K)) (pe_ix (kix_list (K := K)) (pv 5) pe_int (fun _ _ => rfl)) pe_int (fun _ _ => rfl)) pa_nil))) pe_non (nomark _)) (pss_one (ps_ret (pv 4))) pss_nil)))
      (pss_one (ps_ret pe_non))))), ?_⟩
    unfold F_rounds_until_one_color at h
    have S0 := Sep.start H0
    refine rd_seq ?_
    refine rd_drop ?_
    refine rd_call ?_
    refine rd_cons ?_
    refine rd_var rfl ?_
    refine rd_cons ?_
    refine rd_var rfl ?_
    refine rd_nil ?_
    obtain ⟨y3407, h3408, h⟩ := bnd h
    refine ⟨a3403, x_lineup, a3404, x_calls, rfl, (f3405.same S0.sub), (f3406.same S0.sub), y3407, h3408, fun G3409 H3410 R3411 => ?_⟩
    obtain ⟨G3412, S3413, s3414, t3415, l3416⟩ := S0.ret0 R3411
    have f3405 := f3405.same s3414
    have f3406 := f3406.same s3414
    refine rd_mk ?_
    refine rd_seq ?_
    refine rd_asg ?_
    refine rd_call ?_
    refine rd_cons ?_
    refine rd_var rfl ?_
    refine rd_cons ?_
    refine rd_var rfl ?_
    refine rd_nil ?_
    obtain ⟨y3417, h3418, h⟩ := bnd h
    refine ⟨a3403, x_lineup, a3404, x_calls, rfl, (f3405.same S3413.sub), (f3406.same S3413.sub), y3417, h3418, fun a3422 G3419 H3420 R3421 f3423 => ?_⟩
    obtain ⟨G3424, S3425, s3426, t3427, l3428⟩ := S3413.ret0 R3421
    have f3405 := f3405.same s3426
    have f3406 := f3406.same s3426
    have f3423 := t3427 _ _ f3423
    obtain ⟨v3429, v3430, h3433, f3431, f3432⟩ := tu2 f3423
    obtain ⟨a3434, rfl⟩ := fr_lst f3431
    cases fr_int f3432
    refine rd_gtup (S3425.sub _ _ h3433) rfl ?_
    refine rd_gcons ?_
    refine rd_nameS (σ' := [some (.ref a3403), some (.ref a3404), some (.ref a3434), none, none, none]) rfl ?_
    refine rd_gcons ?_
    refine rd_nameS (σ' := [some (.ref a3403), some (.ref a3404), some (.ref a3434), some (.int y3417.2), none, none]) rfl ?_
    refine rd_gnil ?_
    refine rd_mk ?_
    refine rd_seq ?_
    refine rd_for ?_
    refine rd_iEn ?_
    refine rd_cons ?_
    refine rd_var rfl ?_
    refine rd_nil ?_
    obtain ⟨w3435, h3436, k3437⟩ := li f3431
    refine ⟨_, _, rfl, SqL.of (S3425.sub _ _ h3436), ?_⟩
    obtain ⟨r3456_, h3457, ho3455⟩ := bnd h
    refine q_forC h3457 (w_en k3437) (fun s3439 σ' H' => ∃ (x3451 : Option V) (x3452 : Option V) (G3447 : Hp), σ' = [some (.ref a3403), some (.ref a3404), some (.ref a3434), some (.int y3417.2), x3451, x3452] ∧ Sep [] H0 G3447 H' [] ∧ Same G3424 G3447) ?_ ?_ ?_ ?_
    · exact ⟨_, _, G3424, rfl, S3425, Same.refl _⟩
    · rintro s3439 _ H3448 ⟨x3451, x3452, G3447, rfl, S3449, sE3450⟩
      exact (S3449.sub _ _ (sE3450 _ _ h3436))
    · rintro i3440 a3438 s3439 c3446 x3442 _ H3448 H3443 h3444 h ⟨x3451, x3452, G3447, rfl, S3449, sE3450⟩ h3445 hq3453 kb3454
      obtain ⟨T3458, v3459, v3460, rfl, h3461, e3463, e3462⟩ := h3445
      obtain ⟨k3464, k3465⟩ := e3462 _ h3444
      replace k3464 := k3464.same sE3450
      replace k3465 := k3465.same sE3450
      obtain ⟨G3466, S3467, s3468, f3469⟩ := S3449.pair h3461 e3463 k3464 k3465
      have sE3450 := sE3450.trans s3468
      replace f3469 : Fr H0 G3466 (.ref T3458) (eT2 eI (eL (eT2 eI eS)) a3438) := f3469
      obtain ⟨v3470, v3471, h3474, f3472, f3473⟩ := tu2 f3469
      cases fr_int f3472
      obtain ⟨a3475, rfl⟩ := fr_lst f3473
      refine rd_gtup (S3467.sub _ _ h3474) rfl ?_
      refine rd_gcons ?_
      refine rd_nameS (σ' := [some (.ref a3403), some (.ref a3404), some (.ref a3434), some (.int y3417.2), some (.int a3438.1), x3452]) rfl ?_
      refine rd_gcons ?_
      refine rd_nameS (σ' := [some (.ref a3403), some (.ref a3404), some (.ref a3434), some (.int y3417.2), some (.int a3438.1), some (.ref a3475)]) rfl ?_
      refine rd_gnil ?_
      refine rd_ifS ?_
      refine rd_test ?_
      refine rd_op ?_
      refine rd_call ?_
      refine rd_cons ?_
      refine rd_var rfl ?_
      refine rd_cons ?_
      refine rd_op ?_
      refine rd_op ?_
      refine rd_var rfl ?_
      refine rd_c ?_
      obtain ⟨y3476, h3477, h⟩ := bnd h
      obtain ⟨w3478, h3479, k3480⟩ := li f3473
      refine q_ixL (S3467.sub _ _ h3479) k3480 h3477 fun v3481 f3482 => ?_
      obtain ⟨a3483, rfl⟩ := fr_tup f3482
      refine rd_c ?_
      obtain ⟨v3484, v3485, h3488, f3486, f3487⟩ := tu2 f3482
      cases fr_int f3486
      cases fr_str f3487
      refine rd_ixT (S3467.sub _ _ h3488) rfl ?_
      refine rd_nil ?_
      obtain ⟨y3489, h3490, h⟩ := bnd h
      refine ⟨a3475, a3438.2, y3476.2, rfl, (f3473.rp.same S3467.sub), y3489, h3490, fun G3491 H3492 R3493 => ?_⟩
      obtain ⟨G3494, S3495, s3496, t3497, l3498⟩ := S3467.ret0 R3493
      have f3473 := f3473.same s3496
      have sE3450 := sE3450.trans s3496
      refine rd_c ?_
      refine q_isNS ?_
      refine rd_bl ?_
      rcases cnd h with ⟨c3500, h⟩ | ⟨c3500, h⟩
      ·
        refine iteY c3500 ?_
        refine rd_ret ?_
        refine rd_var rfl ?_
        cases h
        have e3499 := hq3453 _ rfl
        subst e3499
        cases (show some ((some a3438.1)) = some _ from ho3455)
        exact kq _ _ S3495.toRet
      ·
        refine iteN c3500 ?_
        refine rd_next ?_
        cases h
        exact ⟨_, rfl, _, _, G3494, rfl, S3495, sE3450⟩
    rintro r3456 _ H3502 rfl ⟨x3505, x3506, G3501, rfl, S3503, sE3504⟩
    have h := ho3455
    refine rd_mk ?_
    refine rd_ret ?_
    refine rd_c ?_
    cases h
    exact kq _ _ S3503.toRet
end
end K77

namespace K77
open PySem L2 LX LQ
section
variable {P : Program} {w : World} {K : PySem.W.Frag} {mg : Str → Option Value} {base : Heap} {a : Ad}
open LQF
def sp_is_order (K : PySem.W.Frag) : Sp := fun vs H Q _ => ∃ (a3507 : Addr) (x_lineup : (List (Int × Str))) (a3508 : Addr) (x_value : (List Int)), vs = [.ref a3507, .ref a3508] ∧ Fr E0h H (.ref a3507) ((eL (eT2 eI eS)) x_lineup) ∧ Fr E0h H (.ref a3508) ((eL eI) x_value) ∧ ∃ r, F_is_order x_lineup x_value = some r ∧ ∀ (G H' : Hp), Ret [] H G H' → Q (.bl (r)) H'
theorem ok_is_order (T : Txt K mg a) : FnOk P w K mg base CX0 3 a.f_is_order a.d_is_order ["lineup", "value"] (sp_is_order K) := by
  refine T.F_is_order.ok sc_is_order (fun vs H Q E h => ?_) (fun cdv A outer s H0 vs Q E hr h => ?_)
  · obtain ⟨a3507, x_lineup, a3508, x_value, rfl, _⟩ := h
    rfl
  · obtain ⟨a3507, x_lineup, a3508, x_value, rfl, f3509, f3510, r, h, kq⟩ := h
    have nd := sc_is_order.nd
    have hu64 := hr.units
    have hu65 := units65 hr
    refine ⟨_, (pss_cons (ps_if (PW.pt (pw_or (pt_cmpR op_notTyB (pe_typeOf rfl T.b_type (pv 1)) (pe_bltn (v := .ty "list") (by rfl) T.b_list (by decide +kernel) rfl) (nomark _)) (pw_or1 (pt_not (pt_val (pe_callB (kall (K := K) rfl) (by rfl) T.b_all (by decide +kernel) (pa_cons (pe_lc (own := [("item", 2)]) (g := gName 2) (tt := tYes) rfl nd (kpi_list (K := K) (pv 1)) (blkOk_by (own := [("item", 2)]) (N := ["lineup", "value", "item"]) (sc := defScope s_is_order) (by decide +kernel)) (fun _ _ _ _ _ => (pg_name (i := 2) nd rfl (Or.inl rfl))) (fun _ _ _ _ _ => pts_nil) (fun _ _ _ _ _ => (pe_call (ok_is_person T) (hr.mono (by decide)) rfl T.g_is_person T.k_is_person T.n_is_person .nil pass0 (pa_cons (pv 0) (pa_cons (pv 2) pa_nil))))) pa_nil))))))) (pss_one (ps_ret pe_bl)) pss_nil)
      (pss_one (ps_ret (pe_cmpR (keqD (K := K) hu64) (pe_callB (ksorted (K := K)) (by rfl) T.b_sorted (by decide +kernel) (pa_cons (pv 1) pa_nil)) (pe_listRg rfl rfl T.b_list (prg_1 rfl T.b_range (pe_callB (klen (K := K)) (by rfl) T.b_len (by decide +kernel) (pa_cons (pv 0) pa_nil)))) (nomark _))))), ?_⟩
    unfold F_is_order at h
    have S0 := Sep.start H0
    refine rd_seq ?_
    refine rd_ifS ?_
    obtain ⟨b3564, h3565, h⟩ := bnd h
    refine rd_ttM (fun k H' => ∃  (G3566 : Hp), k = b3564 ∧ Sep [] H0 G3566 H' [] ∧ Same H0 G3566) (fun R q => ?_) ?_
    ·
      have sE3511 := Same.refl H0
      have h := h3565
      refine rd_or ?_
      refine rd_test ?_
      refine rd_op ?_
      refine rd_cb ?_
      refine rd_cons ?_
      refine rd_var rfl ?_
      refine rd_nil ?_
      obtain ⟨w3512, h3513, k3514⟩ := li f3510
      refine rd_tyL (S0.sub _ _ h3513) ?_
      refine rd_c ?_
      refine rd_NT ?_
      refine rd_bl ?_
      rcases cnd h with ⟨c3570, h⟩ | ⟨c3570, h⟩
      ·
        refine iteY c3570 ?_
        cases h
        exact q _ _ ⟨H0, rfl, S0, sE3511⟩
      ·
        refine iteN c3570 ?_
        refine rd_not ?_
        refine rd_tB ?_
        refine rd_cb ?_
        refine rd_cons ?_
        refine rd_lc ?_
        refine rd_iList ?_
        refine rd_var rfl ?_
        obtain ⟨w3515, h3516, k3517⟩ := li f3510
        refine ⟨_, rfl, ⟨_, SqL.of (S0.sub _ _ h3516)⟩, ?_⟩
        intro D3518 h3519
        obtain ⟨l3546, h3547, h⟩ := bnd h
        refine q_lcL (enc := eB) (F0 := H0) h3547 (w_li k3517) S0 h3519 S0.old ?_ ?_ ?_
        · rintro GD3518 HD3518 accD3518 SD3518 sD3518
          exact (SD3518.sub _ _ (sD3518 _ _ h3516))
        · rintro i3521 x3522 a3520 o3531 G3525 H3523 H3524 acc3530 h3528 h S3526 s3527 h3529 T F hT hF
          have f3509 := f3509.same s3527
          have f3510 := f3510.same s3527
          have sT3532 := Same.refl G3525
          obtain ⟨rfl, e3534⟩ := h3529
          have f3535 := (e3534 _ h3528).same s3527
          cases fr_int f3535
          refine rd_nameS (σ' := [some (.ref a3507), some (.ref a3508), some (.int a3520)]) rfl ?_
          refine ⟨rfl, ?_⟩
          refine rd_tyes ?_
          refine iteY rfl ?_
          refine rd_call ?_
          refine rd_cons ?_
          refine rd_var rfl ?_
          refine rd_cons ?_
          refine rd_var rfl ?_
          refine rd_nil ?_
          obtain ⟨y3536, h3537, h⟩ := bnd h
          refine ⟨a3507, x_lineup, a3520, rfl, (f3509.same S3526.sub), y3536, h3537, fun G3538 H3539 R3540 => ?_⟩
          obtain ⟨G3541, S3542, s3543, t3544, l3545⟩ := S3526.ret0 R3540
          have f3509 := f3509.same s3543
          have f3510 := f3510.same s3543
          have sT3532 := sT3532.trans s3543
          cases h
          exact hT _ _ _ _ rfl S3542 sT3532 (.bl _)
        rintro G3548 H3549 w3550 S3551 s3552 f3553 n3554 n3555
        have f3509 := f3509.same s3552
        have f3510 := f3510.same s3552
        have sE3511 := sE3511.trans s3552
        obtain ⟨G3556, S3557, s3558, f3559⟩ := S3551.fixF 0 rfl (by simp) f3553 n3555
        have f3509 := f3509.same s3558
        have f3510 := f3510.same s3558
        have sE3511 := sE3511.trans s3558
        refine rd_nil ?_
        obtain ⟨w3560, h3561, k3562⟩ := li f3559
        refine q_all (S3557.sub _ _ h3561) k3562 ?_
        refine rd_bl ?_
        cases h
        exact q _ _ ⟨G3556, rfl, S3557, sE3511⟩
    rintro _ H3567 ⟨G3566, rfl, S3568, s3569⟩
    have f3509 := f3509.same s3569
    have f3510 := f3510.same s3569
    rcases cnd h with ⟨c3593, h⟩ | ⟨c3593, h⟩
    ·
      refine iteY c3593 ?_
      refine rd_ret ?_
      refine rd_c ?_
      cases h
      exact kq _ _ S3568.toRet
    ·
      refine iteN c3593 ?_
      refine rd_next ?_
      refine rd_mk ?_
      refine rd_ret ?_
      refine rd_op ?_
      refine rd_cb ?_
      refine rd_cons ?_
      refine rd_var rfl ?_
      refine rd_nil ?_
      obtain ⟨w3571, h3572, k3573⟩ := li f3510
      refine q_sortI (S3568.sub _ _ h3572) k3573 ?_
      refine q_new (F0 := H0) (ds := (sortI x_value).map eI) S3568 (ints_frl _) S3568.old fun a3574 G3575 H3576 S3577 s3578 f3579 => ?_
      have f3509 := f3509.same s3578
      have f3510 := f3510.same s3578
      refine rd_lstRgZ ?_
      refine rd_rg1 ?_
      refine rd_cb ?_
      refine rd_cons ?_
      refine rd_var rfl ?_
      refine rd_nil ?_
      obtain ⟨w3580, h3581, k3582⟩ := li f3509
      refine q_len (S3577.sub _ _ h3581) k3582 ?_
      refine ⟨_, rfl, ?_⟩
      obtain ⟨l3583, h3584, h⟩ := bnd h
      refine q_lrg h3584 ?_
      refine q_new (F0 := H0) (ds := l3583.map eI) S3577 (ints_frl l3583) S3577.old fun a3585 G3586 H3587 S3588 s3589 f3590 => ?_
      have f3509 := f3509.same s3589
      have f3510 := f3510.same s3589
      have f3579 := f3579.same s3589
      obtain ⟨b3591, h3592, h⟩ := bnd h
      refine q_eqD (f3579.rp.same S3588.sub) (f3590.rp.same S3588.sub) h3592 ?_
      cases h
      exact kq _ _ S3588.toRet
end
end K77

namespace K77
open PySem L2 LX LQ
section
variable {P : Program} {w : World} {K : PySem.W.Frag} {mg : Str → Option Value} {base : Heap} {a : Ad}
open LQF
def sp_check_order (K : PySem.W.Frag) : Sp := fun vs H Q _ => ∃ (a3594 : Addr) (x_lineup : (List (Int × Str))) (a3595 : Addr) (x_value : (List Int)), vs = [.ref a3594, .ref a3595] ∧ Fr E0h H (.ref a3594) ((eL (eT2 eI eS)) x_lineup) ∧ Fr E0h H (.ref a3595) ((eL eI) x_value) ∧ ∃ r, F_check_order x_lineup x_value = some r ∧ ∀ (G H' : Hp), Ret [] H G H' → Q .non H'
theorem ok_check_order (T : Txt K mg a) : FnOk P w K mg base CX0 4 a.f_check_order a.d_check_order ["lineup", "value"] (sp_check_order K) := by
  refine T.F_check_order.ok sc_check_order (fun vs H Q E h => ?_) (fun cdv A outer s H0 vs Q E hr h => ?_)
  · obtain ⟨a3594, x_lineup, a3595, x_value, rfl, _⟩ := h
    rfl
  · obtain ⟨a3594, x_lineup, a3595, x_value, rfl, f3596, f3597, r, h, kq⟩ := h
    have nd := sc_check_order.nd
    have hu64 := hr.units
    have hu65 := units65 hr
    refine ⟨_, (pss_one (ps_if (pt_not (pt_val (pe_call (ok_is_order T) (hr.mono (by decide)) rfl T.g_is_order T.k_is_order T.n_is_order .nil pass0 (pa_cons (pv 0) (pa_cons (pv 1) pa_nil))))) pss_never pss_nil)), ?_⟩
    unfold F_check_order at h
    have S0 := Sep.start H0
    refine rd_ifS ?_
    refine rd_not ?_
    refine rd_tB ?_
    refine rd_call ?_
    refine rd_cons ?_
    refine rd_var rfl ?_
    refine rd_cons ?_
    refine rd_var rfl ?_
    refine rd_nil ?_
    obtain ⟨y3598, h3599, h⟩ := bnd h
    refine ⟨a3594, x_lineup, a3595, x_value, rfl, (f3596.same S0.sub), (f3597.same S0.sub), y3598, h3599, fun G3600 H3601 R3602 => ?_⟩
    obtain ⟨G3603, S3604, s3605, t3606, l3607⟩ := S0.ret0 R3602
    have f3596 := f3596.same s3605
    have f3597 := f3597.same s3605
    refine rd_bl ?_
    rcases cnd h with ⟨c3608, h⟩ | ⟨c3608, h⟩
    ·
      refine iteY c3608 ?_
      cases h
    ·
      refine iteN c3608 ?_
      refine rd_next ?_
      cases h
      exact kq _ _ S3604.toRet
end
end K77

namespace K77
open PySem L2 LX LQ
section
variable {P : Program} {w : World} {K : PySem.W.Frag} {mg : Str → Option Value} {base : Heap} {a : Ad}
open LQF
def sp_colors_in_order (K : PySem.W.Frag) : Sp := fun vs H Q _ => ∃ (a3609 : Addr) (x_lineup : (List (Int × Str))), vs = [.ref a3609] ∧ Fr E0h H (.ref a3609) ((eL (eT2 eI eS)) x_lineup) ∧ ∃ r, F_colors_in_order x_lineup = some r ∧ ∀ (G H' : Hp), Ret [] H G H' → Q (.str (r)) H'
theorem ok_colors_in_order (T : Txt K mg a) : FnOk P w K mg base CX0 5 a.f_colors_in_order a.d_colors_in_order ["lineup"] (sp_colors_in_order K) := by
  refine T.F_colors_in_order.ok sc_colors_in_order (fun vs H Q E h => ?_) (fun cdv A outer s H0 vs Q E hr h => ?_)
  · obtain ⟨a3609, x_lineup, rfl, _⟩ := h
    rfl
  · obtain ⟨a3609, x_lineup, rfl, f3610, r, h, kq⟩ := h
    have nd := sc_colors_in_order.nd
    have hu64 := hr.units
    have hu65 := units65 hr
    refine ⟨_, (pss_cons (ps_expr (pe_call (ok_check_lineup T) (hr.mono (by decide)) rfl T.g_check_lineup T.k_check_lineup T.n_check_lineup .nil pass0 (pa_cons (pv 0) pa_nil)))
      (pss_cons (ps_set (i := 1) nd rfl (Or.inl rfl) pe_str)
      (pss_cons (ps_for PassesOwn.never rfl (kpi_list (K := K) (pv 0)) (kpg_tup (K := K) rfl (pgs_cons (pg_name (i := 2) nd rfl (Or.inl rfl)) (pgs_cons (pg_name (i := 3) nd rfl (Or.inl rfl)) pgs_nil))) (pss_one (ps_if (pt_cmpR knotInT (pv 3) (pv 1) rfl) (pss_one (ps_aug (i := 1) nd rfl (Or.inl rfl) (pv 3) kiaddS)) pss_nil)))
      (pss_one (ps_ret (pv 1)))))), ?_⟩
    unfold F_colors_in_order at h
    have S0 := Sep.start H0
    refine rd_seq ?_
    refine rd_drop ?_
    refine rd_call ?_
    refine rd_cons ?_
    refine rd_var rfl ?_
    refine rd_nil ?_
    obtain ⟨y3611, h3612, h⟩ := bnd h
    refine ⟨a3609, x_lineup, rfl, (f3610.same S0.sub), y3611, h3612, fun G3613 H3614 R3615 => ?_⟩
    obtain ⟨G3616, S3617, s3618, t3619, l3620⟩ := S0.ret0 R3615
    have f3610 := f3610.same s3618
    refine rd_mk ?_
    refine rd_seq ?_
    refine rd_asg ?_
    refine rd_c ?_
    refine rd_nameS (σ' := [some (.ref a3609), some (.str (Str.ofString "")), none, none]) rfl ?_
    refine rd_mk ?_
    refine rd_seq ?_
    refine rd_for ?_
    refine rd_iList ?_
    refine rd_var rfl ?_
    obtain ⟨w3621, h3622, k3623⟩ := li f3610
    refine ⟨_, rfl, ⟨_, SqL.of (S3617.sub _ _ h3622)⟩, ?_⟩
    obtain ⟨r3642, h3643, h⟩ := bnd h
    refine q_forF h3643 (w_li k3623) (fun s3625 σ' H' => ∃ (x3637 : Option V) (x3638 : Option V) (G3633 : Hp), σ' = [some (.ref a3609), some (.str s3625), x3637, x3638] ∧ Sep [] H0 G3633 H' [] ∧ Same G3616 G3633) ?_ ?_ ?_ ?_
    · exact ⟨_, _, G3616, rfl, S3617, Same.refl _⟩
    · rintro s3625 _ H3634 ⟨x3637, x3638, G3633, rfl, S3635, sE3636⟩
      exact (S3635.sub _ _ (sE3636 _ _ h3622))
    · rintro i3626 a3624 s3625 s3627 x3628 _ H3634 H3629 h3630 h ⟨x3637, x3638, G3633, rfl, S3635, sE3636⟩ h3631
      obtain ⟨rfl, e3644⟩ := h3631
      have f3645 := (e3644 _ h3630).same sE3636
      obtain ⟨a3646, rfl⟩ := fr_tup f3645
      obtain ⟨v3647, v3648, h3651, f3649, f3650⟩ := tu2 f3645
      cases fr_int f3649
      cases fr_str f3650
      refine rd_gtup (S3635.sub _ _ h3651) rfl ?_
      refine rd_gcons ?_
      refine rd_nameS (σ' := [some (.ref a3609), some (.str s3625), some (.int a3624.1), x3638]) rfl ?_
      refine rd_gcons ?_
      refine rd_nameS (σ' := [some (.ref a3609), some (.str s3625), some (.int a3624.1), some (.str a3624.2)]) rfl ?_
      refine rd_gnil ?_
      refine rd_ifS ?_
      refine rd_test ?_
      refine rd_op ?_
      refine rd_var rfl ?_
      refine rd_var rfl ?_
      obtain ⟨b3652, h3653, h⟩ := bnd h
      refine q_niT h3653 ?_
      refine rd_bl ?_
      rcases cnd h with ⟨c3656, h⟩ | ⟨c3656, h⟩
      ·
        refine iteY c3656 ?_
        refine ⟨_, rfl, ?_⟩
        refine rd_var rfl ?_
        obtain ⟨y3654, h3655, h⟩ := bnd h
        refine q_catS h3655 ?_
        refine rd_setS (σ' := [some (.ref a3609), some (.str y3654), some (.int a3624.1), some (.str a3624.2)]) rfl ?_
        cases h
        exact ⟨_, _, G3633, rfl, S3635, sE3636⟩
      ·
        refine iteN c3656 ?_
        refine rd_next ?_
        cases h
        exact ⟨_, _, G3633, rfl, S3635, sE3636⟩
    rintro _ H3658 ⟨x3661, x3662, G3657, rfl, S3659, sE3660⟩
    refine rd_mk ?_
    refine rd_ret ?_
    refine rd_var rfl ?_
    cases h
    exact kq _ _ S3659.toRet
end
end K77

namespace K77
open PySem L2 LX LQ
section
variable {P : Program} {w : World} {K : PySem.W.Frag} {mg : Str → Option Value} {base : Heap} {a : Ad}
open LQF
def sp_colors_left_by (K : PySem.W.Frag) : Sp := fun vs H Q _ => ∃ (a3663 : Addr) (x_lineup : (List (Int × Str))) (a3664 : Addr) (x_order : (List Int)), vs = [.ref a3663, .ref a3664] ∧ Fr E0h H (.ref a3663) ((eL (eT2 eI eS)) x_lineup) ∧ Fr E0h H (.ref a3664) ((eL eI) x_order) ∧ ∃ r, F_colors_left_by x_lineup x_order = some r ∧ ∀ (G H' : Hp), Ret [] H G H' → Q (.str (r)) H'
theorem ok_colors_left_by (T : Txt K mg a) : FnOk P w K mg base CX0 6 a.f_colors_left_by a.d_colors_left_by ["lineup", "order"] (sp_colors_left_by K) := by
  refine T.F_colors_left_by.ok sc_colors_left_by (fun vs H Q E h => ?_) (fun cdv A outer s H0 vs Q E hr h => ?_)
  · obtain ⟨a3663, x_lineup, a3664, x_order, rfl, _⟩ := h
    rfl
  · obtain ⟨a3663, x_lineup, a3664, x_order, rfl, f3665, f3666, r, h, kq⟩ := h
    have nd := sc_colors_left_by.nd
    have hu64 := hr.units
    have hu65 := units65 hr
    refine ⟨_, (pss_cons (ps_expr (pe_call (ok_check_lineup T) (hr.mono (by decide)) rfl T.g_check_lineup T.k_check_lineup T.n_check_lineup .nil pass0 (pa_cons (pv 0) pa_nil)))
      (pss_cons (ps_expr (pe_call (ok_check_order T) (hr.mono (by decide)) rfl T.g_check_order T.k_check_order T.n_check_order .nil pass0 (pa_cons (pv 0) (pa_cons (pv 1) pa_nil))))
      (pss_one (ps_ret (kbm (K := K) PySem.F.plainAttrs_str PySem.F.slot_str_join PySem.F.type_str_join (kjoin (K := K)) pe_str (pa_cons (pe_callB (ksortX rfl) (by rfl) T.b_sorted (by decide +kernel) (pa_cons (pe_call (ok_colors_in_order T) (hr.mono (by decide)) rfl T.g_colors_in_order T.k_colors_in_order T.n_colors_in_order .nil pass0 (pa_cons (pe_call (ok_lineup_after T) (hr.mono (by decide)) rfl T.g_lineup_after T.k_lineup_after T.n_lineup_after .nil pass0 (pa_cons (pv 0) (pa_cons (pv 1) pa_nil))) pa_nil)) pa_nil)) pa_nil)))))), ?_⟩
    unfold F_colors_left_by at h
    have S0 := Sep.start H0
    refine rd_seq ?_
    refine rd_drop ?_
    refine rd_call ?_
    refine rd_cons ?_
    refine rd_var rfl ?_
    refine rd_nil ?_
    obtain ⟨y3667, h3668, h⟩ := bnd h
    refine ⟨a3663, x_lineup, rfl, (f3665.same S0.sub), y3667, h3668, fun G3669 H3670 R3671 => ?_⟩
    obtain ⟨G3672, S3673, s3674, t3675, l3676⟩ := S0.ret0 R3671
    have f3665 := f3665.same s3674
    have f3666 := f3666.same s3674
    refine rd_mk ?_
    refine rd_seq ?_
    refine rd_drop ?_
    refine rd_call ?_
    refine rd_cons ?_
    refine rd_var rfl ?_
    refine rd_cons ?_
    refine rd_var rfl ?_
    refine rd_nil ?_
    obtain ⟨y3677, h3678, h⟩ := bnd h
    refine ⟨a3663, x_lineup, a3664, x_order, rfl, (f3665.same S3673.sub), (f3666.same S3673.sub), y3677, h3678, fun G3679 H3680 R3681 => ?_⟩
    obtain ⟨G3682, S3683, s3684, t3685, l3686⟩ := S3673.ret0 R3681
    have f3665 := f3665.same s3684
    have f3666 := f3666.same s3684
    refine rd_mk ?_
    refine rd_ret ?_
    refine rd_bm ?_
    refine rd_c ?_
    refine ⟨rfl, ?_⟩
    refine rd_cons ?_
    refine rd_cb ?_
    refine rd_cons ?_
    refine rd_call ?_
    refine rd_cons ?_
    refine rd_call ?_
    refine rd_cons ?_
    refine rd_var rfl ?_
    refine rd_cons ?_
    refine rd_var rfl ?_
    refine rd_nil ?_
    obtain ⟨y3687, h3688, h⟩ := bnd h
    refine ⟨a3663, x_lineup, a3664, x_order, rfl, (f3665.same S3683.sub), (f3666.same S3683.sub), y3687, h3688, fun a3692 G3689 H3690 R3691 f3693 => ?_⟩
    obtain ⟨G3694, S3695, s3696, t3697, l3698⟩ := S3683.ret0 R3691
    have f3665 := f3665.same s3696
    have f3666 := f3666.same s3696
    have f3693 := t3697 _ _ f3693
    refine rd_nil ?_
    obtain ⟨y3699, h3700, h⟩ := bnd h
    refine ⟨a3692, y3687, rfl, (f3693.rp.same S3695.sub), y3699, h3700, fun G3701 H3702 R3703 => ?_⟩
    obtain ⟨G3704, S3705, s3706, t3707, l3708⟩ := S3695.ret0 R3703
    have f3665 := f3665.same s3706
    have f3666 := f3666.same s3706
    refine rd_nil ?_
    obtain ⟨l3709, h3710, h⟩ := bnd h
    refine q_sortX h3710 ?_
    refine q_new (F0 := H0) (ds := (sortS l3709).map eS) S3705 (strs_frl _) S3705.old fun a3711 G3712 H3713 S3714 s3715 f3716 => ?_
    have f3665 := f3665.same s3715
    have f3666 := f3666.same s3715
    refine rd_nil ?_
    obtain ⟨w3717, h3718, k3719⟩ := li f3716
    obtain ⟨y3720, h3721, h⟩ := bnd h
    refine q_join (S3714.sub _ _ h3718) k3719 h3721 ?_
    cases h
    exact kq _ _ S3714.toRet
end
end K77

namespace K77
open PySem L2 LX LQ
section
variable {P : Program} {w : World} {K : PySem.W.Frag} {mg : Str → Option Value} {base : Heap} {a : Ad}
open LQF
def sp__law_holds (K : PySem.W.Frag) : Sp := fun vs H Q _ => ∃ (a3722 : Addr) (x_lineup : (List (Int × Str))) (a3723 : Addr) (x_calls : (List Int)) (a3724 : Addr) (x_order : (List Int)), vs = [.ref a3722, .ref a3723, .ref a3724] ∧ Fr E0h H (.ref a3722) ((eL (eT2 eI eS)) x_lineup) ∧ Fr E0h H (.ref a3723) ((eL eI) x_calls) ∧ Fr E0h H (.ref a3724) ((eL eI) x_order) ∧ ∃ r, F__law_holds x_lineup x_calls x_order = some r ∧ ∀ (G H' : Hp), Ret [] H G H' → Q (.bl (r)) H'
theorem ok__law_holds (T : Txt K mg a) : FnG P w K mg base 8 a.f__law_holds a.d__law_holds ["lineup", "calls", "order"] (sp__law_holds K) := by
  refine fnG T.F__law_holds sc__law_holds (fun vs H Q E h => ?_) (fun cdv A outer s H0 vs Q E hr quiet h => ?_)
  · obtain ⟨a3722, x_lineup, a3723, x_calls, a3724, x_order, rfl, _⟩ := h
    rfl
  · obtain ⟨a3722, x_lineup, a3723, x_calls, a3724, x_order, rfl, f3725, f3726, f3727, r, h, kq⟩ := h
    have nd := sc__law_holds.nd
    have hu64 := hr.units
    have hu65 := units65 hr
    refine ⟨_, (pss_cons (ps_set (i := 3) nd rfl (Or.inl rfl) (pe_callB (krepr (K := K) quiet hu64) (by rfl) T.b_repr (by decide +kernel) (pa_cons (pe_lst (pa_cons (pv 0) (pa_cons (pv 1) (pa_cons (pv 2) pa_nil)))) pa_nil)))
      (pss_cons (ps_set (i := 4) nd rfl (Or.inr rfl) (pe_listRg rfl rfl T.b_list (prg_1 rfl T.b_range (pe_callB (klen (K := K)) (by rfl) T.b_len (by decide +kernel) (pa_cons (pv 0) pa_nil)))))
      (pss_cons (ps_asg (pe_call (ok__law_rounds T) (hr.mono (by decide)) rfl T.g__law_rounds T.k__law_rounds T.n__law_rounds .nil pass0 (pa_cons (pv 0) (pa_cons (pv 1) pa_nil))) (kpg_tup (K := K) rfl (pgs_cons (pg_name (i := 5) nd rfl (Or.inr rfl)) (pgs_cons (pg_name (i := 6) nd rfl (Or.inl rfl)) pgs_nil))))
      (pss_cons (ps_setLc (i := 7) (own := [("k", 11)]) (g := gName 11) rfl nd rfl rfl (sw_true rfl rfl rfl (by decide +kernel)) (pi_range1 rfl T.b_range (pa_cons (pe_callB (klen (K := K)) (by rfl) T.b_len (by decide +kernel) (pa_cons (pv 5) pa_nil)) pa_nil)) (blkOk_by (own := [("k", 11)]) (N := ["lineup", "calls", "order", "before", "people", "lineups", "first", "single", "due", "told", "again", "k"]) (sc := defScope s__law_holds) (by decide +kernel)) (fun _ _ _ _ _ => (pg_name (i := 11) nd rfl (Or.inl rfl))) (fun _ _ _ _ _ => pts_one (pt_cmpR op_eq (pe_callB klenS (by rfl) T.b_len (by decide +kernel) (pa_cons (pe_call (ok__law_colors T) (hr.mono (by decide)) rfl T.g__law_colors T.k__law_colors T.n__law_colors .nil pass0 (pa_cons (pe_ix (kix_list (K := K)) (pv 5) (pv 11) (fun _ _ => rfl)) (pa_cons (pv 4) pa_nil))) pa_nil)) pe_int (nomark _))) (fun _ _ _ _ _ => (pv 11)))
      (pss_cons (ps_set (i := 8) nd rfl (Or.inl rfl) (pe_lst (pa_cons (pe_ifExp (pt_cmpR (kneD (K := K) hu64) (pv 7) (pe_lst pa_nil) (nomark _)) (pe_ix (kix_list (K := K)) (pv 7) pe_int (fun _ _ => rfl)) pe_non) (pa_cons (pe_call (ok__law_colors T) (hr.mono (by decide)) rfl T.g__law_colors T.k__law_colors T.n__law_colors .nil pass0 (pa_cons (pe_ix (kix_list (K := K)) (pe_call (ok__law_applied T) (hr.mono (by decide)) rfl T.g__law_applied T.k__law_applied T.n__law_applied .nil pass0 (pa_cons (pv 0) (pa_cons (pv 2) pa_nil))) (pe_un un_neg pe_int) (fun _ _ => rfl)) (pa_cons (pv 4) pa_nil))) pa_nil))))
      (pss_cons (ps_set (i := 9) nd rfl (Or.inl rfl) (pe_lst (pa_cons (pe_call (ok_rounds_until_one_color T) (hr.mono (by decide)) rfl T.g_rounds_until_one_color T.k_rounds_until_one_color T.n_rounds_until_one_color .nil pass0 (pa_cons (pv 0) (pa_cons (pv 1) pa_nil))) (pa_cons (pe_call (ok_colors_left_by T) (hr.mono (by decide)) rfl T.g_colors_left_by T.k_colors_left_by T.n_colors_left_by .nil pass0 (pa_cons (pv 0) (pa_cons (pv 2) pa_nil))) pa_nil))))
      (pss_cons (ps_set (i := 10) nd rfl (Or.inl rfl) (pe_lst (pa_cons (pe_call (ok_rounds_until_one_color T) (hr.mono (by decide)) rfl T.g_rounds_until_one_color T.k_rounds_until_one_color T.n_rounds_until_one_color .nil pass0 (pa_cons (pv 0) (pa_cons (pv 1) pa_nil))) (pa_cons (pe_call (ok_colors_left_by T) (hr.mono (by decide)) rfl T.g_colors_left_by T.k_colors_left_by T.n_colors_left_by .nil pass0 (pa_cons (pv 0) (pa_cons (pv 2) pa_nil))) pa_nil))))
      (pss_one (ps_ret (pe_and (pe_call (ok__law_equal T) (hr.mono (by decide)) rfl T.g__law_equal T.k__law_equal T.n__law_equal .nil pass0 (pa_cons (pv 9) (pa_cons (pv 8) pa_nil))) (pe_and (pe_call (ok__law_equal T) (hr.mono (by decide)) rfl T.g__law_equal T.k__law_equal T.n__law_equal .nil pass0 (pa_cons (pv 10) (pa_cons (pv 8) pa_nil))) (pe_one (pe_cmpR op_eq (pe_callB (krepr (K := K) quiet hu64) (by rfl) T.b_repr (by decide +kernel) (pa_cons (pe_lst (pa_cons (pv 0) (pa_cons (pv 1) (pa_cons (pv 2) pa_nil)))) pa_nil)) (pv 3) (nomark _)))))))))))))), ?_⟩
    unfold F__law_holds at h
    have S0 := Sep.start H0
    refine rd_seq ?_
    refine rd_asg ?_
    refine rd_cb ?_
    refine rd_cons ?_
    refine rd_lstZ ?_
    refine rd_cons ?_
    refine rd_var rfl ?_
    refine rd_cons ?_
    refine rd_var rfl ?_
    refine rd_cons ?_
    refine rd_var rfl ?_
    refine rd_nil ?_
    refine q_lstT (ds := [(eL (eT2 eI eS)) x_lineup, (eL eI) x_calls, (eL eI) x_order]) S0 (by show 3 ≤ LIM; decide) (.cons (f3725.same S0.sub) (.cons (f3726.same S0.sub) (.cons (f3727.same S0.sub) .nil))) fun a3728 G3729 H3730 S3731 s3732 f3733 => ?_
    have f3725 := f3725.same s3732
    have f3726 := f3726.same s3732
    have f3727 := f3727.same s3732
    refine rd_nil ?_
    obtain ⟨y3734, h3735, h⟩ := bnd h
    refine q_repr f3733 h3735 ?_
    refine rd_nameS (σ' := [some (.ref a3722), some (.ref a3723), some (.ref a3724), some (.str y3734), none, none, none, none, none, none, none, none]) rfl ?_
    refine rd_mk ?_
    refine rd_seq ?_
    refine rd_asg ?_
    refine rd_lstRgZ ?_
    refine rd_rg1 ?_
    refine rd_cb ?_
    refine rd_cons ?_
    refine rd_var rfl ?_
    refine rd_nil ?_
    obtain ⟨w3736, h3737, k3738⟩ := li f3725
    refine q_len (S3731.sub _ _ h3737) k3738 ?_
    refine ⟨_, rfl, ?_⟩
    obtain ⟨l3739, h3740, h⟩ := bnd h
    refine q_lrg h3740 ?_
    refine q_new (F0 := H0) (ds := l3739.map eI) S3731 (ints_frl l3739) S3731.old fun a3741 G3742 H3743 S3744 s3745 f3746 => ?_
    have f3725 := f3725.same s3745
    have f3726 := f3726.same s3745
    have f3727 := f3727.same s3745
    refine rd_nameS (σ' := [some (.ref a3722), some (.ref a3723), some (.ref a3724), some (.str y3734), some (.ref a3741), none, none, none, none, none, none, none]) rfl ?_
    refine rd_mk ?_
    refine rd_seq ?_
    refine rd_asg ?_
    refine rd_call ?_
    refine rd_cons ?_
    refine rd_var rfl ?_
    refine rd_cons ?_
    refine rd_var rfl ?_
    refine rd_nil ?_
    obtain ⟨y3747, h3748, h⟩ := bnd h
    refine ⟨a3722, x_lineup, a3723, x_calls, rfl, (f3725.same S3744.sub), (f3726.same S3744.sub), y3747, h3748, fun a3752 G3749 H3750 R3751 f3753 => ?_⟩
    obtain ⟨G3754, S3755, s3756, t3757, l3758⟩ := S3744.ret0 R3751
    have f3725 := f3725.same s3756
    have f3726 := f3726.same s3756
    have f3727 := f3727.same s3756
    have f3746 := f3746.same s3756
    have f3753 := t3757 _ _ f3753
    obtain ⟨v3759, v3760, h3763, f3761, f3762⟩ := tu2 f3753
    obtain ⟨a3764, rfl⟩ := fr_lst f3761
    cases fr_int f3762
    refine rd_gtup (S3755.sub _ _ h3763) rfl ?_
    refine rd_gcons ?_
    refine rd_nameS (σ' := [some (.ref a3722), some (.ref a3723), some (.ref a3724), some (.str y3734), some (.ref a3741), some (.ref a3764), none, none, none, none, none, none]) rfl ?_
    refine rd_gcons ?_
    refine rd_nameS (σ' := [some (.ref a3722), some (.ref a3723), some (.ref a3724), some (.str y3734), some (.ref a3741), some (.ref a3764), some (.int y3747.2), none, none, none, none, none]) rfl ?_
    refine rd_gnil ?_
    refine rd_mk ?_
    refine rd_seq ?_
    refine rd_asg ?_
    refine rd_lc ?_
    refine rd_iR1 ?_
    refine rd_cons ?_
    refine rd_cb ?_
    refine rd_cons ?_
    refine rd_var rfl ?_
    refine rd_nil ?_
    obtain ⟨w3765, h3766, k3767⟩ := li f3761
    refine q_len (S3755.sub _ _ h3766) k3767 ?_
    refine rd_nil ?_
    obtain ⟨l3768, h3769, h⟩ := bnd h
    refine q_rng1 h3769 ?_
    intro D3770 h3771
    obtain ⟨l3807, h3808, h⟩ := bnd h
    refine q_lcL (enc := eI) (F0 := H0) h3808 (w_rng1 h3769) S3755 h3771 S3755.old ?_ ?_ ?_
    · rintro GD3770 HD3770 accD3770 SD3770 sD3770
      exact trivial
    · rintro i3773 x3774 a3772 o3783 G3777 H3775 H3776 acc3782 h3780 h S3778 s3779 h3781 T F hT hF
      have f3725 := f3725.same s3779
      have f3726 := f3726.same s3779
      have f3727 := f3727.same s3779
      have f3746 := f3746.same s3779
      have f3761 := f3761.same s3779
      have sT3784 := Same.refl G3777
      obtain ⟨rfl, e3786⟩ := h3781
      cases e3786 _ h3780
      refine rd_nameS (σ' := [some (.ref a3722), some (.ref a3723), some (.ref a3724), some (.str y3734), some (.ref a3741), some (.ref a3764), some (.int y3747.2), none, none, none, none, some (.int a3772)]) rfl ?_
      refine ⟨rfl, ?_⟩
      refine rd_test ?_
      refine rd_op ?_
      refine rd_cb ?_
      refine rd_cons ?_
      refine rd_call ?_
      refine rd_cons ?_
      refine rd_op ?_
      refine rd_var rfl ?_
      refine rd_var rfl ?_
      obtain ⟨y3787, h3788, h⟩ := bnd h
      obtain ⟨w3789, h3790, k3791⟩ := li f3761
      refine q_ixL (S3778.sub _ _ h3790) k3791 h3788 fun v3792 f3793 => ?_
      obtain ⟨a3794, rfl⟩ := fr_lst f3793
      refine rd_cons ?_
      refine rd_var rfl ?_
      refine rd_nil ?_
      obtain ⟨y3795, h3796, h⟩ := bnd h
      refine ⟨a3794, y3787, a3741, l3739, rfl, (f3793.rp.same S3778.sub), (f3746.rp.same S3778.sub), y3795, h3796, fun G3797 H3798 R3799 => ?_⟩
      obtain ⟨G3800, S3801, s3802, t3803, l3804⟩ := S3778.ret0 R3799
      have f3725 := f3725.same s3802
      have f3726 := f3726.same s3802
      have f3727 := f3727.same s3802
      have f3746 := f3746.same s3802
      have f3761 := f3761.same s3802
      have sT3784 := sT3784.trans s3802
      refine rd_nil ?_
      obtain ⟨y3805, h3806, h⟩ := bnd h
      refine q_lenS h3806 ?_
      refine rd_c ?_
      refine q_eqI ?_
      refine rd_bl ?_
      rcases cnd h with ⟨c3809, h⟩ | ⟨c3809, h⟩
      ·
        refine iteY c3809 ?_
        refine rd_var rfl ?_
        cases h
        exact hT _ _ _ _ rfl S3801 sT3784 (.int _)
      ·
        refine iteN c3809 ?_
        cases h
        exact hF _ _ rfl S3801 sT3784
    rintro G3810 H3811 w3812 S3813 s3814 f3815 n3816 n3817
    have f3725 := f3725.same s3814
    have f3726 := f3726.same s3814
    have f3727 := f3727.same s3814
    have f3746 := f3746.same s3814
    have f3761 := f3761.same s3814
    obtain ⟨G3818, S3819, s3820, f3821⟩ := S3813.fixF 0 rfl (by simp) f3815 n3817
    have f3725 := f3725.same s3820
    have f3726 := f3726.same s3820
    have f3727 := f3727.same s3820
    have f3746 := f3746.same s3820
    have f3761 := f3761.same s3820
    refine rd_nameS (σ' := [some (.ref a3722), some (.ref a3723), some (.ref a3724), some (.str y3734), some (.ref a3741), some (.ref a3764), some (.int y3747.2), some (.ref D3770), none, none, none, none]) rfl ?_
    refine rd_mk ?_
    refine rd_seq ?_
    refine rd_asg ?_
    refine rd_lstZ ?_
    refine rd_cons ?_
    obtain ⟨y3845, h3846, h⟩ := bnd h
    refine rd_teM2 (fun k H' => ∃  (G3847 : Hp), k = (vO V.int y3845) ∧ Sep [] H0 G3847 H' [] ∧ Same G3818 G3847) (fun R q => ?_) ?_
    ·
      have sE3822 := Same.refl G3818
      have h := h3846
      refine rd_ifE ?_
      refine rd_test ?_
      refine rd_op ?_
      refine rd_var rfl ?_
      refine rd_lstZ ?_
      refine rd_nil ?_
      refine q_lst (F0 := H0) (ds := []) S3819 (by show 0 ≤ LIM; decide) .nil S3819.old fun a3823 G3824 H3825 S3826 s3827 f3828 => ?_
      have f3725 := f3725.same s3827
      have f3726 := f3726.same s3827
      have f3727 := f3727.same s3827
      have f3746 := f3746.same s3827
      have f3821 := f3821.same s3827
      have sE3822 := sE3822.trans s3827
      replace f3828 : Fr H0 G3824 (.ref a3823) ((eL eA) ([] : (List PyData))) := f3828
      obtain ⟨b3829, h3830, h⟩ := bnd h
      refine q_neD (f3821.rp.same S3826.sub) (f3828.rp.same S3826.sub) h3830 ?_
      refine rd_bl ?_
      rcases cnd h with ⟨c3851, h⟩ | ⟨c3851, h⟩
      ·
        refine iteY c3851 ?_
        refine rd_op ?_
        refine rd_var rfl ?_
        refine rd_c ?_
        obtain ⟨y3838, h3839, h⟩ := bnd h
        obtain ⟨w3840, h3841, k3842⟩ := li f3821
        refine q_ixL (S3826.sub _ _ h3841) k3842 h3839 fun v3843 f3844 => ?_
        cases fr_int f3844
        cases h
        exact q _ _ ⟨G3824, rfl, S3826, sE3822⟩
      ·
        refine iteN c3851 ?_
        refine rd_c ?_
        cases h
        exact q _ _ ⟨G3824, rfl, S3826, sE3822⟩
    rintro _ H3848 ⟨G3847, rfl, S3849, s3850⟩
    have f3725 := f3725.same s3850
    have f3726 := f3726.same s3850
    have f3727 := f3727.same s3850
    have f3746 := f3746.same s3850
    have f3821 := f3821.same s3850
    refine rd_cons ?_
    refine rd_call ?_
    refine rd_cons ?_
    refine rd_op ?_
    refine rd_call ?_
    refine rd_cons ?_
    refine rd_var rfl ?_
    refine rd_cons ?_
    refine rd_var rfl ?_
    refine rd_nil ?_
    obtain ⟨y3852, h3853, h⟩ := bnd h
    refine ⟨a3722, x_lineup, a3724, x_order, rfl, (f3725.same S3849.sub), (f3727.same S3849.sub), y3852, h3853, fun a3857 G3854 H3855 R3856 f3858 => ?_⟩
    obtain ⟨G3859, S3860, s3861, t3862, l3863⟩ := S3849.ret0 R3856
    have f3725 := f3725.same s3861
    have f3726 := f3726.same s3861
    have f3727 := f3727.same s3861
    have f3746 := f3746.same s3861
    have f3821 := f3821.same s3861
    have f3858 := t3862 _ _ f3858
    refine rd_un ?_
    refine rd_c ?_
    refine rd_U ?_
    obtain ⟨y3864, h3865, h⟩ := bnd h
    obtain ⟨w3866, h3867, k3868⟩ := li f3858
    refine q_ixL (S3860.sub _ _ h3867) k3868 h3865 fun v3869 f3870 => ?_
    obtain ⟨a3871, rfl⟩ := fr_lst f3870
    refine rd_cons ?_
    refine rd_var rfl ?_
    refine rd_nil ?_
    obtain ⟨y3872, h3873, h⟩ := bnd h
    refine ⟨a3871, y3864, a3741, l3739, rfl, (f3870.rp.same S3860.sub), (f3746.rp.same S3860.sub), y3872, h3873, fun G3874 H3875 R3876 => ?_⟩
    obtain ⟨G3877, S3878, s3879, t3880, l3881⟩ := S3860.ret0 R3876
    have f3725 := f3725.same s3879
    have f3726 := f3726.same s3879
    have f3727 := f3727.same s3879
    have f3746 := f3746.same s3879
    have f3821 := f3821.same s3879
    refine rd_nil ?_
    refine q_lst (F0 := H0) (ds := [eA ((eO eI) y3845), eA (eS y3872)]) S3878 (by show 2 ≤ LIM; decide) (.cons (show Fr H0 _ (vO V.int y3845) ((eO eI) y3845) from (oI_fr _)) (.cons (show Fr H0 _ (.str y3872) (eS y3872) from (.str _)) .nil)) S3878.old fun a3882 G3883 H3884 S3885 s3886 f3887 => ?_
    have f3725 := f3725.same s3886
    have f3726 := f3726.same s3886
    have f3727 := f3727.same s3886
    have f3746 := f3746.same s3886
    have f3821 := f3821.same s3886
    replace f3887 : Fr H0 G3883 (.ref a3882) ((eL eA) [((eO eI) y3845), (eS y3872)]) := f3887
    refine rd_nameS (σ' := [some (.ref a3722), some (.ref a3723), some (.ref a3724), some (.str y3734), some (.ref a3741), some (.ref a3764), some (.int y3747.2), some (.ref D3770), some (.ref a3882), none, none, none]) rfl ?_
    refine rd_mk ?_
    refine rd_seq ?_
    refine rd_asg ?_
    refine rd_lstZ ?_
    refine rd_cons ?_
    refine rd_call ?_
    refine rd_cons ?_
    refine rd_var rfl ?_
    refine rd_cons ?_
    refine rd_var rfl ?_
    refine rd_nil ?_
    obtain ⟨y3888, h3889, h⟩ := bnd h
    refine ⟨a3722, x_lineup, a3723, x_calls, rfl, (f3725.same S3885.sub), (f3726.same S3885.sub), y3888, h3889, fun G3890 H3891 R3892 => ?_⟩
    obtain ⟨G3893, S3894, s3895, t3896, l3897⟩ := S3885.ret0 R3892
    have f3725 := f3725.same s3895
    have f3726 := f3726.same s3895
    have f3727 := f3727.same s3895
    have f3887 := f3887.same s3895
    refine rd_cons ?_
    refine rd_call ?_
    refine rd_cons ?_
    refine rd_var rfl ?_
    refine rd_cons ?_
    refine rd_var rfl ?_
    refine rd_nil ?_
    obtain ⟨y3898, h3899, h⟩ := bnd h
    refine ⟨a3722, x_lineup, a3724, x_order, rfl, (f3725.same S3894.sub), (f3727.same S3894.sub), y3898, h3899, fun G3900 H3901 R3902 => ?_⟩
    obtain ⟨G3903, S3904, s3905, t3906, l3907⟩ := S3894.ret0 R3902
    have f3725 := f3725.same s3905
    have f3726 := f3726.same s3905
    have f3727 := f3727.same s3905
    have f3887 := f3887.same s3905
    refine rd_nil ?_
    refine q_lst (F0 := H0) (ds := [eA ((eO eI) y3888), eA (eS y3898)]) S3904 (by show 2 ≤ LIM; decide) (.cons (show Fr H0 _ (vO V.int y3888) ((eO eI) y3888) from (oI_fr _)) (.cons (show Fr H0 _ (.str y3898) (eS y3898) from (.str _)) .nil)) S3904.old fun a3908 G3909 H3910 S3911 s3912 f3913 => ?_
    have f3725 := f3725.same s3912
    have f3726 := f3726.same s3912
    have f3727 := f3727.same s3912
    have f3887 := f3887.same s3912
    replace f3913 : Fr H0 G3909 (.ref a3908) ((eL eA) [((eO eI) y3888), (eS y3898)]) := f3913
    refine rd_nameS (σ' := [some (.ref a3722), some (.ref a3723), some (.ref a3724), some (.str y3734), some (.ref a3741), some (.ref a3764), some (.int y3747.2), some (.ref D3770), some (.ref a3882), some (.ref a3908), none, none]) rfl ?_
    refine rd_mk ?_
    refine rd_seq ?_
    refine rd_asg ?_
    refine rd_lstZ ?_
    refine rd_cons ?_
    refine rd_call ?_
    refine rd_cons ?_
    refine rd_var rfl ?_
    refine rd_cons ?_
    refine rd_var rfl ?_
    refine rd_nil ?_
    obtain ⟨y3914, h3915, h⟩ := bnd h
    refine ⟨a3722, x_lineup, a3723, x_calls, rfl, (f3725.same S3911.sub), (f3726.same S3911.sub), y3914, h3915, fun G3916 H3917 R3918 => ?_⟩
    obtain ⟨G3919, S3920, s3921, t3922, l3923⟩ := S3911.ret0 R3918
    have f3725 := f3725.same s3921
    have f3726 := f3726.same s3921
    have f3727 := f3727.same s3921
    have f3887 := f3887.same s3921
    have f3913 := f3913.same s3921
    refine rd_cons ?_
    refine rd_call ?_
    refine rd_cons ?_
    refine rd_var rfl ?_
    refine rd_cons ?_
    refine rd_var rfl ?_
    refine rd_nil ?_
    obtain ⟨y3924, h3925, h⟩ := bnd h
    refine ⟨a3722, x_lineup, a3724, x_order, rfl, (f3725.same S3920.sub), (f3727.same S3920.sub), y3924, h3925, fun G3926 H3927 R3928 => ?_⟩
    obtain ⟨G3929, S3930, s3931, t3932, l3933⟩ := S3920.ret0 R3928
    have f3725 := f3725.same s3931
    have f3726 := f3726.same s3931
    have f3727 := f3727.same s3931
    have f3887 := f3887.same s3931
    have f3913 := f3913.same s3931
    refine rd_nil ?_
    refine q_lst (F0 := H0) (ds := [eA ((eO eI) y3914), eA (eS y3924)]) S3930 (by show 2 ≤ LIM; decide) (.cons (show Fr H0 _ (vO V.int y3914) ((eO eI) y3914) from (oI_fr _)) (.cons (show Fr H0 _ (.str y3924) (eS y3924) from (.str _)) .nil)) S3930.old fun a3934 G3935 H3936 S3937 s3938 f3939 => ?_
    have f3725 := f3725.same s3938
    have f3726 := f3726.same s3938
    have f3727 := f3727.same s3938
    have f3887 := f3887.same s3938
    have f3913 := f3913.same s3938
    replace f3939 : Fr H0 G3935 (.ref a3934) ((eL eA) [((eO eI) y3914), (eS y3924)]) := f3939
    refine rd_nameS (σ' := [some (.ref a3722), some (.ref a3723), some (.ref a3724), some (.str y3734), some (.ref a3741), some (.ref a3764), some (.int y3747.2), some (.ref D3770), some (.ref a3882), some (.ref a3908), some (.ref a3934), none]) rfl ?_
    refine rd_mk ?_
    refine rd_ret ?_
    obtain ⟨b3970, h3971, h⟩ := bnd h
    refine rd_teM2 (fun k H' => ∃  (G3972 : Hp), k = .bl b3970 ∧ Sep [] H0 G3972 H' [] ∧ Same G3935 G3972) (fun R q => ?_) ?_
    ·
      have sE3940 := Same.refl G3935
      have h := h3971
      refine rd_andV ?_
      refine rd_call ?_
      refine rd_cons ?_
      refine rd_var rfl ?_
      refine rd_cons ?_
      refine rd_var rfl ?_
      refine rd_nil ?_
      obtain ⟨y3941, h3942, h⟩ := bnd h
      refine ⟨(.ref a3908), ((eL eA) [((eO eI) y3888), (eS y3898)]), (.ref a3882), ((eL eA) [((eO eI) y3845), (eS y3872)]), rfl, (f3913.rp.same S3937.sub), (f3887.rp.same S3937.sub), y3941, h3942, fun G3943 H3944 R3945 => ?_⟩
      obtain ⟨G3946, S3947, s3948, t3949, l3950⟩ := S3937.ret0 R3945
      have f3725 := f3725.same s3948
      have f3726 := f3726.same s3948
      have f3727 := f3727.same s3948
      have f3887 := f3887.same s3948
      have f3913 := f3913.same s3948
      have f3939 := f3939.same s3948
      have sE3940 := sE3940.trans s3948
      refine ⟨_, rfl, ?_⟩
      rcases cnd h with ⟨c3976, h⟩ | ⟨c3976, h⟩
      ·
        refine iteY c3976 ?_
        refine rd_andV ?_
        refine rd_call ?_
        refine rd_cons ?_
        refine rd_var rfl ?_
        refine rd_cons ?_
        refine rd_var rfl ?_
        refine rd_nil ?_
        obtain ⟨y3951, h3952, h⟩ := bnd h
        refine ⟨(.ref a3934), ((eL eA) [((eO eI) y3914), (eS y3924)]), (.ref a3882), ((eL eA) [((eO eI) y3845), (eS y3872)]), rfl, (f3939.rp.same S3947.sub), (f3887.rp.same S3947.sub), y3951, h3952, fun G3953 H3954 R3955 => ?_⟩
        obtain ⟨G3956, S3957, s3958, t3959, l3960⟩ := S3947.ret0 R3955
        have f3725 := f3725.same s3958
        have f3726 := f3726.same s3958
        have f3727 := f3727.same s3958
        have f3887 := f3887.same s3958
        have f3913 := f3913.same s3958
        have f3939 := f3939.same s3958
        have sE3940 := sE3940.trans s3958
        refine ⟨_, rfl, ?_⟩
        rcases cnd h with ⟨c3977, h⟩ | ⟨c3977, h⟩
        ·
          refine iteY c3977 ?_
          refine rd_op ?_
          refine rd_cb ?_
          refine rd_cons ?_
          refine rd_lstZ ?_
          refine rd_cons ?_
          refine rd_var rfl ?_
          refine rd_cons ?_
          refine rd_var rfl ?_
          refine rd_cons ?_
          refine rd_var rfl ?_
          refine rd_nil ?_
          refine q_lstT (ds := [(eL (eT2 eI eS)) x_lineup, (eL eI) x_calls, (eL eI) x_order]) S3957 (by show 3 ≤ LIM; decide) (.cons (f3725.same S3957.sub) (.cons (f3726.same S3957.sub) (.cons (f3727.same S3957.sub) .nil))) fun a3961 G3962 H3963 S3964 s3965 f3966 => ?_
          have f3725 := f3725.same s3965
          have f3726 := f3726.same s3965
          have f3727 := f3727.same s3965
          have f3887 := f3887.same s3965
          have f3913 := f3913.same s3965
          have f3939 := f3939.same s3965
          have sE3940 := sE3940.trans s3965
          refine rd_nil ?_
          obtain ⟨y3967, h3968, h⟩ := bnd h
          refine q_repr f3966 h3968 ?_
          refine rd_var rfl ?_
          refine q_eqS ?_
          cases h
          exact q _ _ ⟨G3962, rfl, S3964, sE3940⟩
        ·
          refine iteN c3977 ?_
          cases h
          exact q _ _ ⟨G3956, rfl, S3957, sE3940⟩
      ·
        refine iteN c3976 ?_
        cases h
        exact q _ _ ⟨G3946, rfl, S3947, sE3940⟩
    rintro _ H3973 ⟨G3972, rfl, S3974, s3975⟩
    have f3725 := f3725.same s3975
    have f3726 := f3726.same s3975
    have f3727 := f3727.same s3975
    have f3887 := f3887.same s3975
    have f3913 := f3913.same s3975
    have f3939 := f3939.same s3975
    cases h
    exact kq _ _ S3974.toRet
end
end K77

namespace K77
open PySem L2 LX LQ
section
variable {P : Program} {w : World} {K : PySem.W.Frag} {mg : Str → Option Value} {base : Heap} {a : Ad}
open LQF
def sp_law0 (K : PySem.W.Frag) : Sp := fun vs H Q _ => ∃ (a3978 : Addr) (x_script : (List Int)), vs = [.ref a3978] ∧ Scr K H a3978 x_script ∧ ∃ r, F_law x_script = some r ∧ ∀ (G H' : Hp), Ret [] H G H' → Q (.bl (r)) H'
theorem ok_law0 (T : Txt K mg a) : FnG P w K mg base 9 a.f_law a.d_law ["script"] (sp_law0 K) := by
  refine fnG T.F_law sc_law (fun vs H Q E h => ?_) (fun cdv A outer s H0 vs Q E hr quiet h => ?_)
  · obtain ⟨a3978, x_script, rfl, _⟩ := h
    rfl
  · obtain ⟨a3978, x_script, rfl, f3979, r, h, kq⟩ := h
    have nd := sc_law.nd
    have hu64 := hr.units
    have hu65 := units65 hr
    refine ⟨_, (pss_cons (ps_for PassesOwn.never rfl (pi_enum rfl T.b_enumerate (pa_cons (pe_op op_cat (pe_slice (ksl_list (K := K)) (pv 0) po_none (po_some pe_int)) (pe_lst (pa_cons pe_int pa_nil))) pa_nil)) (kpg_tup (K := K) rfl (pgs_cons (pg_name (i := 1) nd rfl (Or.inl rfl)) (pgs_cons (pg_name (i := 2) nd rfl (Or.inl rfl)) pgs_nil))) (pss_cons (ps_set (i := 3) nd rfl (Or.inr rfl) (pe_call (ok__law_bag T) (hr.mono (by decide)) rfl T.g__law_bag T.k__law_bag T.n__law_bag .nil pass0 (pa_cons (pv 2) pa_nil)))
      (pss_cons (ps_set (i := 4) nd rfl (Or.inl rfl) (pe_cmpR op_eq (pv 1) (pe_callB (klen (K := K)) (by rfl) T.b_len (by decide +kernel) (pa_cons (pe_slice (ksl_list (K := K)) (pv 0) po_none (po_some pe_int)) pa_nil)) (nomark _)))
      (pss_one (ps_for PassesOwn.never rfl (pi_range1 rfl T.b_range (pa_cons (pe_ifExp (pt_val (pv 4)) pe_int pe_int) pa_nil)) (pg_name (i := 5) nd rfl (Or.inl rfl)) (pss_cons (ps_set (i := 6) nd rfl (Or.inl rfl) (pe_call (ok__law_lineup T) (hr.mono (by decide)) rfl T.g__law_lineup T.k__law_lineup T.n__law_lineup .nil pass0 (pa_cons (pv 3) (pa_cons (pe_ifExp (pt_val (pv 4)) pe_int (pe_ix (kix_list (K := K)) (pe_lst (pa_cons pe_int (pa_cons pe_int (pa_cons pe_int pa_nil)))) (pe_call (ok__law_draw T) (hr.mono (by decide)) rfl T.g__law_draw T.k__law_draw T.n__law_draw .nil pass0 (pa_cons (pv 3) (pa_cons pe_int pa_nil))) (fun _ _ => rfl))) pa_nil))))
      (pss_cons (ps_set (i := 7) nd rfl (Or.inl rfl) (pe_callB (klen (K := K)) (by rfl) T.b_len (by decide +kernel) (pa_cons (pv 6) pa_nil)))
      (pss_cons (ps_set (i := 8) nd rfl (Or.inl rfl) (pe_lst (pa_cons (pe_call (ok__law_draw T) (hr.mono (by decide)) rfl T.g__law_draw T.k__law_draw T.n__law_draw .nil pass0 (pa_cons (pv 3) (pa_cons (pv 7) pa_nil))) pa_nil)))
      (pss_cons (ps_set (i := 8) nd rfl (Or.inl rfl) (pe_op op_cat (pv 8) (pe_call (ok__law_calls T) (hr.mono (by decide)) rfl T.g__law_calls T.k__law_calls T.n__law_calls .nil pass0 (pa_cons (pv 3) (pa_cons (pv 7) (pa_cons (pe_ifExp (pt_val (pv 4)) pe_int (pe_ix (kix_list (K := K)) (pe_lst (pa_cons pe_int (pa_cons pe_int (pa_cons pe_int pa_nil)))) (pe_call (ok__law_draw T) (hr.mono (by decide)) rfl T.g__law_draw T.k__law_draw T.n__law_draw .nil pass0 (pa_cons (pv 3) (pa_cons pe_int pa_nil))) (fun _ _ => rfl))) pa_nil))))))
      (pss_cons (ps_set (i := 9) nd rfl (Or.inr rfl) (pe_listRg rfl rfl T.b_list (prg_1 rfl T.b_range (pv 7))))
      (pss_cons (ps_setLc (i := 10) (own := [("j", 12)]) (g := gName 12) (tt := tYes) rfl nd rfl rfl (sw_true rfl rfl rfl (by decide +kernel)) (pi_range1 rfl T.b_range (pa_cons (pv 7) pa_nil)) (blkOk_by (own := [("j", 12)]) (N := ["script", "k", "cell", "bag", "is_last", "turn", "lineup", "size", "calls", "left", "order", "other", "j"]) (sc := defScope s_law) (by decide +kernel)) (fun _ _ _ _ _ => (pg_name (i := 12) nd rfl (Or.inl rfl))) (fun _ _ _ _ _ => pts_nil) (fun _ _ _ _ _ => (kbm (K := K) PySem.F.plainAttrs_list PySem.F.slot_list_pop PySem.F.type_list_pop mt_popAt (pv 9) (pa_cons (pe_call (ok__law_draw T) (hr.mono (by decide)) rfl T.g__law_draw T.k__law_draw T.n__law_draw .nil pass0 (pa_cons (pv 3) (pa_cons (pe_callB (klen (K := K)) (by rfl) T.b_len (by decide +kernel) (pa_cons (pv 9) pa_nil)) pa_nil))) pa_nil))))
      (pss_cons (ps_set (i := 11) nd rfl (Or.inl rfl) (pe_call (ok__law_leveling_calls T) (hr.mono (by decide)) rfl T.g__law_leveling_calls T.k__law_leveling_calls T.n__law_leveling_calls .nil pass0 (pa_cons (pv 3) (pa_cons (pv 6) pa_nil))))
      (pss_cons (ps_if (PW.pt (pw_or (pt_not (pt_val (pe_callG (ok__law_holds T) (hr.mono (by decide)) quiet rfl T.g__law_holds T.k__law_holds T.n__law_holds (pa_cons (pv 6) (pa_cons (pv 8) (pa_cons (pv 10) pa_nil)))))) (pw_or1 (PW.pt (pw_and (pt_cmpR (kneD (K := K) hu64) (pv 11) (pe_lst pa_nil) (nomark _)) (pw_and1 (pt_not (pt_val (pe_callG (ok__law_holds T) (hr.mono (by decide)) quiet rfl T.g__law_holds T.k__law_holds T.n__law_holds (pa_cons (pv 6) (pa_cons (pv 11) (pa_cons (pv 10) pa_nil)))))))))))) (pss_one (ps_ret pe_bl)) pss_nil)
      (pss_cons (ps_expr (kbm0 (K := K) PySem.F.plainAttrs_list PySem.F.slot_list_reverse PySem.F.type_list_reverse mt_reverse (pv 6)))
      (pss_cons (ps_asg (pe_call (ok__law_draw T) (hr.mono (by decide)) rfl T.g__law_draw T.k__law_draw T.n__law_draw .nil pass0 (pa_cons (pv 3) (pa_cons (pv 7) pa_nil))) (pg_sub (pv 8) pe_int set_list))
      (pss_cons (ps_expr (kbm0 (K := K) PySem.F.plainAttrs_list PySem.F.slot_list_reverse PySem.F.type_list_reverse mt_reverse (pv 10)))
      (pss_one (ps_if (pt_not (pt_val (pe_callG (ok__law_holds T) (hr.mono (by decide)) quiet rfl T.g__law_holds T.k__law_holds T.n__law_holds (pa_cons (pv 6) (pa_cons (pv 8) (pa_cons (pv 10) pa_nil)))))) (pss_one (ps_ret pe_bl)) pss_nil))))))))))))))))))
      (pss_one (ps_ret pe_bl))), ?_⟩
    unfold F_law at h
    have S0 := Sep.start H0
    refine rd_seq ?_
    refine rd_for ?_
    refine rd_iEn ?_
    refine rd_cons ?_
    refine rd_op ?_
    refine rd_sl ?_
    refine rd_var rfl ?_
    refine rd_nopart ?_
    refine rd_part ?_
    refine rd_c ?_
    refine rd_int ?_
    refine q_slScr S0 f3979 fun a3980 G3984 H3981 S3982 s3985 f3983 => ?_
    have f3979 := f3979.same s3985
    refine rd_lstZ ?_
    refine rd_cons ?_
    refine rd_c ?_
    refine rd_nil ?_
    refine q_lst (F0 := H0) (ds := [eI (0 : Int)]) S3982 (by show 1 ≤ LIM; decide) (.cons (.int _) .nil) S3982.old fun a3986 G3987 H3988 S3989 s3990 f3991 => ?_
    have f3979 := f3979.same s3990
    have f3983 := f3983.same s3990
    replace f3991 : Fr H0 G3987 (.ref a3986) ((eL eI) [(0 : Int)]) := f3991
    obtain ⟨y3992, h3993, h⟩ := bnd h
    obtain ⟨w3994, h3995, k3996⟩ := li f3983
    obtain ⟨w3997, h3998, k3999⟩ := li f3991
    refine q_cat S3989 (S3989.sub _ _ h3995) k3996 (S3989.sub _ _ h3998) k3999 h3993 S3989.old fun a4000 G4003 H4001 S4002 s4004 f4005 => ?_
    have f3979 := f3979.same s4004
    refine rd_nil ?_
    obtain ⟨w4006, h4007, k4008⟩ := li f4005
    refine ⟨_, _, rfl, SqL.of (S4002.sub _ _ h4007), ?_⟩
    obtain ⟨r4036_, h4037, ho4035⟩ := bnd h
    refine q_forC h4037 (w_en k4008) (fun s4010 σ' H' => ∃ (x4022 : Option V) (x4023 : Option V) (x4024 : Option V) (x4025 : Option V) (x4026 : Option V) (x4027 : Option V) (x4028 : Option V) (x4029 : Option V) (x4030 : Option V) (x4031 : Option V) (x4032 : Option V) (G4018 : Hp), σ' = [some (.ref a3978), x4022, x4023, x4024, x4025, x4026, x4027, x4028, x4029, x4030, x4031, x4032, none] ∧ Sep [] H0 G4018 H' [] ∧ Same G4003 G4018) ?_ ?_ ?_ ?_
    · exact ⟨_, _, _, _, _, _, _, _, _, _, _, G4003, rfl, S4002, Same.refl _⟩
    · rintro s4010 _ H4019 ⟨x4022, x4023, x4024, x4025, x4026, x4027, x4028, x4029, x4030, x4031, x4032, G4018, rfl, S4020, sE4021⟩
      exact (S4020.sub _ _ (sE4021 _ _ h4007))
    · rintro i4011 a4009 s4010 c4017 x4013 _ H4019 H4014 h4015 h ⟨x4022, x4023, x4024, x4025, x4026, x4027, x4028, x4029, x4030, x4031, x4032, G4018, rfl, S4020, sE4021⟩ h4016 hq4033 kb4034
      have f3979 := f3979.same sE4021
      obtain ⟨T4038, v4039, v4040, rfl, h4041, e4043, e4042⟩ := h4016
      obtain ⟨k4044, k4045⟩ := e4042 _ h4015
      replace k4044 := k4044.same sE4021
      replace k4045 := k4045.same sE4021
      obtain ⟨G4046, S4047, s4048, f4049⟩ := S4020.pair h4041 e4043 k4044 k4045
      have f3979 := f3979.same s4048
      have sE4021 := sE4021.trans s4048
      replace f4049 : Fr H0 G4046 (.ref T4038) (eT2 eI eI a4009) := f4049
      obtain ⟨v4050, v4051, h4054, f4052, f4053⟩ := tu2 f4049
      cases fr_int f4052
      cases fr_int f4053
      refine rd_gtup (S4047.sub _ _ h4054) rfl ?_
      refine rd_gcons ?_
      refine rd_nameS (σ' := [some (.ref a3978), some (.int a4009.1), x4023, x4024, x4025, x4026, x4027, x4028, x4029, x4030, x4031, x4032, none]) rfl ?_
      refine rd_gcons ?_
      refine rd_nameS (σ' := [some (.ref a3978), some (.int a4009.1), some (.int a4009.2), x4024, x4025, x4026, x4027, x4028, x4029, x4030, x4031, x4032, none]) rfl ?_
      refine rd_gnil ?_
      refine rd_seq ?_
      refine rd_asg ?_
      refine rd_call ?_
      refine rd_cons ?_
      refine rd_var rfl ?_
      refine rd_nil ?_
      obtain ⟨y4055, h4056, h⟩ := bnd h
      refine ⟨a4009.2, rfl, y4055, h4056, fun a4060 G4057 H4058 R4059 f4061 => ?_⟩
      obtain ⟨G4062, w4067, S4063, s4064, n4068, f4069⟩ := S4047.ret0O R4059 f4061
      have f3979 := f3979.same s4064
      have sE4021 := sE4021.trans s4064
      refine rd_nameS (σ' := [some (.ref a3978), some (.int a4009.1), some (.int a4009.2), some (.ref a4060), x4025, x4026, x4027, x4028, x4029, x4030, x4031, x4032, none]) rfl ?_
      refine rd_mk ?_
      refine rd_seq ?_
      refine rd_asg ?_
      refine rd_op ?_
      refine rd_var rfl ?_
      refine rd_cb ?_
      refine rd_cons ?_
      refine rd_sl ?_
      refine rd_var rfl ?_
      refine rd_nopart ?_
      refine rd_part ?_
      refine rd_c ?_
      refine rd_int ?_
      refine q_slScr S4063 f3979 fun a4070 G4074 H4071 S4072 s4075 f4073 => ?_
      have f3979 := f3979.same s4075
      have f4069 := f4069.same s4075
      have sE4021 := sE4021.trans s4075
      refine rd_nil ?_
      obtain ⟨w4076, h4077, k4078⟩ := li f4073
      refine q_len (S4072.sub _ _ h4077) k4078 ?_
      refine q_eqI ?_
      refine rd_nameS (σ' := [some (.ref a3978), some (.int a4009.1), some (.int a4009.2), some (.ref a4060), some (.bl (decide (a4009.1 = (lenI (cutL x_script none (some (8 : Int))))))), x4026, x4027, x4028, x4029, x4030, x4031, x4032, none]) rfl ?_
      refine rd_mk ?_
      refine rd_for ?_
      refine rd_iR1 ?_
      refine rd_cons ?_
      refine rd_teM2 (fun k H' => k = (.int (cond (decide (a4009.1 = (lenI (cutL x_script none (some (8 : Int)))))) (1 : Int) (2 : Int))) ∧ H4071 = H') (fun R q => ?_) ?_
      ·
        refine rd_ifE ?_
        refine rd_tB ?_
        refine rd_var rfl ?_
        refine rd_bl ?_
        refine ite_by (fun c4080 => ?_) (fun c4080 => ?_)
        ·
          refine rd_c ?_
          exact q _ _ ⟨by rw [c4080]; rfl, rfl⟩
        ·
          refine rd_c ?_
          exact q _ _ ⟨by rw [c4080]; rfl, rfl⟩
      rintro _ _ ⟨rfl, rfl⟩
      refine rd_nil ?_
      obtain ⟨l4081, h4082, h⟩ := bnd h
      refine q_rng1 h4082 ?_
      obtain ⟨r4108_, h4109, ho4107⟩ := bnd h
      refine q_forC h4109 (w_rng1 h4082) (fun s4084 σ' H' => ∃ (x4096 : Option V) (x4097 : Option V) (x4098 : Option V) (x4099 : Option V) (x4100 : Option V) (x4101 : Option V) (x4102 : Option V) (w4103 : List V) (G4092 : Hp), σ' = [some (.ref a3978), some (.int a4009.1), some (.int a4009.2), some (.ref a4060), some (.bl (decide (a4009.1 = (lenI (cutL x_script none (some (8 : Int))))))), x4096, x4097, x4098, x4099, x4100, x4101, x4102, none] ∧ Sep [] H0 G4092 H' [(a4060, .lst w4103)] ∧ Same G4074 G4092 ∧ FrL H0 G4092 w4103 ((s4084).map eI)) ?_ ?_ ?_ ?_
      · exact ⟨_, _, _, _, _, _, _, w4067, G4074, rfl, S4072, Same.refl _, f4069⟩
      · rintro s4084 _ H4093 ⟨x4096, x4097, x4098, x4099, x4100, x4101, x4102, w4103, G4092, rfl, S4094, sE4095, f4104⟩
        exact trivial
      · rintro i4085 a4083 s4084 c4091 x4087 _ H4093 H4088 h4089 h ⟨x4096, x4097, x4098, x4099, x4100, x4101, x4102, w4103, G4092, rfl, S4094, sE4095, f4104⟩ h4090 hq4105 kb4106
        have f3979 := f3979.same sE4095
        obtain ⟨rfl, e4110⟩ := h4090
        cases e4110 _ h4089
        refine rd_nameS (σ' := [some (.ref a3978), some (.int a4009.1), some (.int a4009.2), some (.ref a4060), some (.bl (decide (a4009.1 = (lenI (cutL x_script none (some (8 : Int))))))), some (.int a4083), x4097, x4098, x4099, x4100, x4101, x4102, none]) rfl ?_
        refine rd_seq ?_
        refine rd_asg ?_
        refine rd_call ?_
        refine rd_cons ?_
        refine rd_var rfl ?_
        refine rd_cons ?_
        obtain ⟨y4164, h4165, h⟩ := bnd h
        refine rd_teM2 (fun k H' => ∃ (w4170 : List V) (G4166 : Hp), k = (.int y4164.1) ∧ Sep [] H0 G4166 H' [(a4060, .lst w4170)] ∧ Same G4092 G4166 ∧ FrL H0 G4166 w4170 ((y4164.2).map eI)) (fun R q => ?_) ?_
        ·
          have sE4111 := Same.refl G4092
          have h := h4165
          refine rd_ifE ?_
          refine rd_tB ?_
          refine rd_var rfl ?_
          refine rd_bl ?_
          rcases cnd h with ⟨c4172, h⟩ | ⟨c4172, h⟩
          ·
            refine iteY c4172 ?_
            refine rd_c ?_
            cases h
            exact q _ _ ⟨w4103, G4092, rfl, S4094, sE4111, f4104⟩
          ·
            refine iteN c4172 ?_
            refine rd_op ?_
            refine rd_lstZ ?_
            refine rd_cons ?_
            refine rd_c ?_
            refine rd_cons ?_
            refine rd_c ?_
            refine rd_cons ?_
            refine rd_c ?_
            refine rd_nil ?_
            refine q_lst (F0 := H0) (ds := [eI (4 : Int), eI (12 : Int), eI (60 : Int)]) S4094 (by show 3 ≤ LIM; decide) (.cons (.int _) (.cons (.int _) (.cons (.int _) .nil))) S4094.old fun a4138 G4139 H4140 S4141 s4142 f4143 => ?_
            have f3979 := f3979.same s4142
            have f4104 := f4104.same s4142
            have sE4111 := sE4111.trans s4142
            replace f4143 : Fr H0 G4139 (.ref a4138) ((eL eI) [(4 : Int), (12 : Int), (60 : Int)]) := f4143
            refine rd_call ?_
            refine rd_cons ?_
            refine rd_var rfl ?_
            refine rd_cons ?_
            refine rd_c ?_
            refine rd_nil ?_
            obtain ⟨y4144, h4145, h⟩ := bnd h
            refine ⟨a4060, w4103, s4084, (3 : Int), rfl, (S4141.get 0 rfl), (f4104.rp.same (S4141.hid1 0 rfl)), y4144, h4145, fun w4149 G4146 H4147 R4148 h4150 k4151 => ?_⟩
            obtain ⟨G4152, S4153, s4154, t4155, l4156⟩ := S4141.ret1 0 rfl R4148 h4150 lst_tup
            have k4151 := l4156 _ _ (k4151.imm (flat_map flI _))
            have f3979 := f3979.same s4154
            have f4143 := f4143.same s4154
            have f4104 := f4104.same s4154
            have sE4111 := sE4111.trans s4154
            have S4153 : Sep [] H0 G4152 H4147 [(a4060, .lst w4149)] := S4153
            obtain ⟨y4157, h4158, h⟩ := bnd h
            obtain ⟨w4159, h4160, k4161⟩ := li f4143
            refine q_ixL (S4153.sub _ _ h4160) k4161 h4158 fun v4162 f4163 => ?_
            cases fr_int f4163
            cases h
            exact q _ _ ⟨w4149, G4152, rfl, S4153, sE4111, k4151⟩
        rintro _ H4167 ⟨w4170, G4166, rfl, S4168, s4169, f4171⟩
        have f3979 := f3979.same s4169
        have sE4095 := sE4095.trans s4169
        refine rd_nil ?_
        obtain ⟨y4173, h4174, h⟩ := bnd h
        refine ⟨a4060, w4170, y4164.2, y4164.1, rfl, (S4168.get 0 rfl), (f4171.rp.same (S4168.hid1 0 rfl)), y4173, h4174, fun a4178 w4179 G4175 H4176 R4177 h4180 k4181 f4182 => ?_⟩
        have f41820 := li0 f4182
        obtain ⟨G4183, S4184, s4185, t4186, l4187⟩ := S4168.ret1 0 rfl R4177 h4180 lst_tup
        have k4181 := l4187 _ _ (k4181.imm (flat_map flI _))
        have f4182 := t4186 _ _ f4182
        obtain ⟨G4188, w4189, S4190, n4194, f4191, u4192, k4193⟩ := S4184.unshare f4182
        have s4185 := u4192 _ s4185 (S4168.gfree f41820)
        have k4181 := k4193 _ _ _ k4181 (flat_map flI _)
        have f3979 := f3979.same s4185
        have f4171 := f4171.same s4185
        have sE4095 := sE4095.trans s4185
        have S4190 : Sep [] H0 G4188 H4176 [(a4178, .lst w4189), (a4060, .lst w4179)] := S4190
        refine rd_nameS (σ' := [some (.ref a3978), some (.int a4009.1), some (.int a4009.2), some (.ref a4060), some (.bl (decide (a4009.1 = (lenI (cutL x_script none (some (8 : Int))))))), some (.int a4083), some (.ref a4178), x4098, x4099, x4100, x4101, x4102, none]) rfl ?_
        refine rd_mk ?_
        refine rd_seq ?_
        refine rd_asg ?_
        refine rd_cb ?_
        refine rd_cons ?_
        refine rd_var rfl ?_
        refine rd_nil ?_
        refine q_len (S4190.get 0 rfl) f4191 ?_
        refine rd_nameS (σ' := [some (.ref a3978), some (.int a4009.1), some (.int a4009.2), some (.ref a4060), some (.bl (decide (a4009.1 = (lenI (cutL x_script none (some (8 : Int))))))), some (.int a4083), some (.ref a4178), some (.int (lenI y4173.1)), x4099, x4100, x4101, x4102, none]) rfl ?_
        refine rd_mk ?_
        refine rd_seq ?_
        refine rd_asg ?_
        refine rd_lstZ ?_
        refine rd_cons ?_
        refine rd_call ?_
        refine rd_cons ?_
        refine rd_var rfl ?_
        refine rd_cons ?_
        refine rd_var rfl ?_
        refine rd_nil ?_
        obtain ⟨y4196, h4197, h⟩ := bnd h
        refine ⟨a4060, w4179, y4173.2, (lenI y4173.1), rfl, (S4190.get 1 rfl), (k4181.rp.same (S4190.hid1 1 rfl)), y4196, h4197, fun w4201 G4198 H4199 R4200 h4202 k4203 => ?_⟩
        obtain ⟨G4204, S4205, s4206, t4207, l4208⟩ := S4190.ret1 1 rfl R4200 h4202 lst_tup
        have k4203 := l4208 _ _ (k4203.imm (flat_map flI _))
        have f3979 := f3979.same s4206
        have f4191 := f4191.same s4206
        have k4181 := k4181.same s4206
        have sE4095 := sE4095.trans s4206
        have S4205 : Sep [] H0 G4204 H4199 [(a4178, .lst w4189), (a4060, .lst w4201)] := S4205
        refine rd_nil ?_
        refine q_lstO S4205 (by show 1 ≤ LIM; decide) fun a4209 H4210 S4211 n4212 => ?_
        have f4213 : FrL H0 G4204 [(.int y4196.1)] ([y4196.1].map eI) := (.cons (.int _) .nil)
        refine rd_nameS (σ' := [some (.ref a3978), some (.int a4009.1), some (.int a4009.2), some (.ref a4060), some (.bl (decide (a4009.1 = (lenI (cutL x_script none (some (8 : Int))))))), some (.int a4083), some (.ref a4178), some (.int (lenI y4173.1)), some (.ref a4209), x4100, x4101, x4102, none]) rfl ?_
        refine rd_mk ?_
        refine rd_seq ?_
        refine rd_asg ?_
        refine rd_op ?_
        refine rd_var rfl ?_
        refine rd_call ?_
        refine rd_cons ?_
        refine rd_var rfl ?_
        refine rd_cons ?_
        refine rd_var rfl ?_
        refine rd_cons ?_
        obtain ⟨y4267, h4268, h⟩ := bnd h
        refine rd_teM2 (fun k H' => ∃ (w4273 : List V) (G4269 : Hp), k = (.int y4267.1) ∧ Sep [] H0 G4269 H' [(a4209, .lst [(.int y4196.1)]), (a4178, .lst w4189), (a4060, .lst w4273)] ∧ Same G4204 G4269 ∧ FrL H0 G4269 w4273 ((y4267.2).map eI)) (fun R q => ?_) ?_
        ·
          have sE4214 := Same.refl G4204
          have h := h4268
          refine rd_ifE ?_
          refine rd_tB ?_
          refine rd_var rfl ?_
          refine rd_bl ?_
          rcases cnd h with ⟨c4275, h⟩ | ⟨c4275, h⟩
          ·
            refine iteY c4275 ?_
            refine rd_c ?_
            cases h
            exact q _ _ ⟨w4201, G4204, rfl, S4211, sE4214, k4203⟩
          ·
            refine iteN c4275 ?_
            refine rd_op ?_
            refine rd_lstZ ?_
            refine rd_cons ?_
            refine rd_c ?_
            refine rd_cons ?_
            refine rd_c ?_
            refine rd_cons ?_
            refine rd_c ?_
            refine rd_nil ?_
            refine q_lst (F0 := H0) (ds := [eI (12 : Int), eI (40 : Int), eI (199 : Int)]) S4211 (by show 3 ≤ LIM; decide) (.cons (.int _) (.cons (.int _) (.cons (.int _) .nil))) S4211.old fun a4241 G4242 H4243 S4244 s4245 f4246 => ?_
            have f3979 := f3979.same s4245
            have f4213 := f4213.same s4245
            have f4191 := f4191.same s4245
            have k4203 := k4203.same s4245
            have sE4214 := sE4214.trans s4245
            replace f4246 : Fr H0 G4242 (.ref a4241) ((eL eI) [(12 : Int), (40 : Int), (199 : Int)]) := f4246
            refine rd_call ?_
            refine rd_cons ?_
            refine rd_var rfl ?_
            refine rd_cons ?_
            refine rd_c ?_
            refine rd_nil ?_
            obtain ⟨y4247, h4248, h⟩ := bnd h
            refine ⟨a4060, w4201, y4196.2, (3 : Int), rfl, (S4244.get 2 rfl), (k4203.rp.same (S4244.hid1 2 rfl)), y4247, h4248, fun w4252 G4249 H4250 R4251 h4253 k4254 => ?_⟩
            obtain ⟨G4255, S4256, s4257, t4258, l4259⟩ := S4244.ret1 2 rfl R4251 h4253 lst_tup
            have k4254 := l4259 _ _ (k4254.imm (flat_map flI _))
            have f3979 := f3979.same s4257
            have f4246 := f4246.same s4257
            have f4213 := f4213.same s4257
            have f4191 := f4191.same s4257
            have k4203 := k4203.same s4257
            have sE4214 := sE4214.trans s4257
            have S4256 : Sep [] H0 G4255 H4250 [(a4209, .lst [(.int y4196.1)]), (a4178, .lst w4189), (a4060, .lst w4252)] := S4256
            obtain ⟨y4260, h4261, h⟩ := bnd h
            obtain ⟨w4262, h4263, k4264⟩ := li f4246
            refine q_ixL (S4256.sub _ _ h4263) k4264 h4261 fun v4265 f4266 => ?_
            cases fr_int f4266
            cases h
            exact q _ _ ⟨w4252, G4255, rfl, S4256, sE4214, k4254⟩
        rintro _ H4270 ⟨w4273, G4269, rfl, S4271, s4272, f4274⟩
        have f3979 := f3979.same s4272
        have f4213 := f4213.same s4272
        have f4191 := f4191.same s4272
        have sE4095 := sE4095.trans s4272
        refine rd_nil ?_
        obtain ⟨y4276, h4277, h⟩ := bnd h
        refine ⟨a4060, w4273, y4267.2, (lenI y4173.1), y4267.1, rfl, (S4271.get 2 rfl), (f4274.rp.same (S4271.hid1 2 rfl)), y4276, h4277, fun a4281 w4282 G4278 H4279 R4280 h4283 k4284 f4285 => ?_⟩
        obtain ⟨G4286, S4287, s4288, t4289, l4290⟩ := S4271.ret1 2 rfl R4280 h4283 lst_tup
        have k4284 := l4290 _ _ (k4284.imm (flat_map flI _))
        have f3979 := f3979.same s4288
        have f4213 := f4213.same s4288
        have f4191 := f4191.same s4288
        have f4274 := f4274.same s4288
        have sE4095 := sE4095.trans s4288
        have S4287 : Sep [] H0 G4286 H4279 [(a4209, .lst [(.int y4196.1)]), (a4178, .lst w4189), (a4060, .lst w4282)] := S4287
        have f4285 := t4289 _ _ f4285
        obtain ⟨y4291, h4292, h⟩ := bnd h
        obtain ⟨w4293, h4294, k4295⟩ := li f4285
        refine q_catO S4287 (S4287.get 0 rfl) f4213 (S4287.sub _ _ h4294) k4295 h4292 fun a4296 w4299 H4297 S4298 n4300 f4301 => ?_
        refine rd_nameS (σ' := [some (.ref a3978), some (.int a4009.1), some (.int a4009.2), some (.ref a4060), some (.bl (decide (a4009.1 = (lenI (cutL x_script none (some (8 : Int))))))), some (.int a4083), some (.ref a4178), some (.int (lenI y4173.1)), some (.ref a4296), x4100, x4101, x4102, none]) rfl ?_
        refine rd_mk ?_
        refine rd_seq ?_
        refine rd_asg ?_
        refine rd_lstRgZ ?_
        refine rd_rg1 ?_
        refine rd_var rfl ?_
        refine ⟨_, rfl, ?_⟩
        obtain ⟨l4302, h4303, h⟩ := bnd h
        refine q_lrg h4303 ?_
        refine q_newO S4298 fun a4304 H4305 S4306 n4307 => ?_
        have f4308 : FrL H0 G4286 (l4302.map V.int) (l4302.map eI) := (ints_frl l4302)
        refine rd_nameS (σ' := [some (.ref a3978), some (.int a4009.1), some (.int a4009.2), some (.ref a4060), some (.bl (decide (a4009.1 = (lenI (cutL x_script none (some (8 : Int))))))), some (.int a4083), some (.ref a4178), some (.int (lenI y4173.1)), some (.ref a4296), some (.ref a4304), x4101, x4102, none]) rfl ?_
        refine rd_mk ?_
        refine rd_seq ?_
        refine rd_asg ?_
        refine rd_lc ?_
        refine rd_iR1 ?_
        refine rd_cons ?_
        refine rd_var rfl ?_
        refine rd_nil ?_
        obtain ⟨l4309, h4310, h⟩ := bnd h
        refine q_rng1 h4310 ?_
        intro D4311 h4312
        have S4364 := S4306
        have f4365 : FrL H0 G4286 ((l4302).map V.int) ((l4302).map eI) := ints_frl _
        have S4364 : Sep [] H0 G4286 H4305 [(a4304, .lst ((l4302).map V.int)), (a4296, .lst w4299), (a4209, .lst [(.int y4196.1)]), (a4178, .lst w4189), (a4060, .lst w4282)] := S4364
        have S4366 := S4364
        rw [frl_ints k4284] at S4366
        have f4367 : FrL H0 G4286 ((y4276.2).map V.int) ((y4276.2).map eI) := ints_frl _
        have S4366 : Sep [] H0 G4286 H4305 [(a4304, .lst ((l4302).map V.int)), (a4296, .lst w4299), (a4209, .lst [(.int y4196.1)]), (a4178, .lst w4189), (a4060, .lst ((y4276.2).map V.int))] := S4366
        obtain ⟨l4396, h4397, h⟩ := bnd h
        refine q_lcLS (c := fun (s4362 : ((List Int) × (List Int))) => ([(a4304, .lst ((s4362.1).map V.int)), (a4296, .lst w4299), (a4209, .lst [(.int y4196.1)]), (a4178, .lst w4189), (a4060, .lst ((s4362.2).map V.int))] : List (Addr × HO))) (ys := l4396.1) (s1 := l4396.2) (enc := eI) (F0 := H0) h4397 (w_rng1 h4310) S4366 h4312 S4366.old ?_ ?_ ?_
        · rintro svD4311 GD4311 HD4311 accD4311 SD4311 sD4311
          exact trivial
        · rintro i4350 x4351 a4349 s4362 o4360 s4363 G4354 H4352 H4353 acc4359 h4357 h S4355 s4356 h4358 T F hT hF
          have f3979 := f3979.same s4356
          have f4301 := f4301.same s4356
          have f4213 := f4213.same s4356
          have f4191 := f4191.same s4356
          have S4355 : Sep [] H0 G4354 H4352 [(D4311, .lst acc4359), (a4304, .lst ((s4362.1).map V.int)), (a4296, .lst w4299), (a4209, .lst [(.int y4196.1)]), (a4178, .lst w4189), (a4060, .lst ((s4362.2).map V.int))] := S4355
          have f4368 : FrL H0 G4354 ((s4362.1).map V.int) ((s4362.1).map eI) := ints_frl _
          have f4369 : FrL H0 G4354 ((s4362.2).map V.int) ((s4362.2).map eI) := ints_frl _
          have sT4361 := Same.refl G4354
          obtain ⟨rfl, e4370⟩ := h4358
          cases e4370 _ h4357
          refine rd_nameS (σ' := [some (.ref a3978), some (.int a4009.1), some (.int a4009.2), some (.ref a4060), some (.bl (decide (a4009.1 = (lenI (cutL x_script none (some (8 : Int))))))), some (.int a4083), some (.ref a4178), some (.int (lenI y4173.1)), some (.ref a4296), some (.ref a4304), x4101, x4102, some (.int a4349)]) rfl ?_
          refine ⟨rfl, ?_⟩
          refine rd_tyes ?_
          refine iteY rfl ?_
          refine rd_bm ?_
          refine rd_var rfl ?_
          refine ⟨Or.inl ⟨rfl, _, SqL.of (S4355.get 1 rfl)⟩, ?_⟩
          refine rd_cons ?_
          refine rd_call ?_
          refine rd_cons ?_
          refine rd_var rfl ?_
          refine rd_cons ?_
          refine rd_cb ?_
          refine rd_cons ?_
          refine rd_var rfl ?_
          refine rd_nil ?_
          refine q_len (S4355.get 1 rfl) f4368 ?_
          refine rd_nil ?_
          obtain ⟨y4371, h4372, h⟩ := bnd h
          refine ⟨a4060, ((s4362.2).map V.int), s4362.2, (lenI s4362.1), rfl, (S4355.get 5 rfl), (f4369.rp.same (S4355.hid1 5 rfl)), y4371, h4372, fun w4376 G4373 H4374 R4375 h4377 k4378 => ?_⟩
          obtain ⟨G4379, S4380, s4381, t4382, l4383⟩ := S4355.ret1 5 rfl R4375 h4377 lst_tup
          have k4378 := l4383 _ _ (k4378.imm (flat_map flI _))
          have f3979 := f3979.same s4381
          have f4368 := f4368.same s4381
          have f4301 := f4301.same s4381
          have f4213 := f4213.same s4381
          have f4191 := f4191.same s4381
          have f4369 := f4369.same s4381
          have sT4361 := sT4361.trans s4381
          have S4380 : Sep [] H0 G4379 H4374 [(D4311, .lst acc4359), (a4304, .lst ((s4362.1).map V.int)), (a4296, .lst w4299), (a4209, .lst [(.int y4196.1)]), (a4178, .lst w4189), (a4060, .lst w4376)] := S4380
          refine rd_nil ?_
          obtain ⟨y4384, h4385, h⟩ := bnd h
          refine q_popAt (x := y4384.1) (r := y4384.2) S4380 1 rfl f4368 h4385 fun v4386 w4387 H4388 S4389 f4390 f4391 => ?_
          have S4389 : Sep [] H0 G4379 H4388 [(D4311, .lst acc4359), (a4304, .lst w4387), (a4296, .lst w4299), (a4209, .lst [(.int y4196.1)]), (a4178, .lst w4189), (a4060, .lst w4376)] := S4389
          cases fr_int f4391
          have S4392 := S4389
          rw [frl_ints f4390] at S4392
          have f4393 : FrL H0 G4379 ((y4384.2).map V.int) ((y4384.2).map eI) := ints_frl _
          have S4392 : Sep [] H0 G4379 H4388 [(D4311, .lst acc4359), (a4304, .lst ((y4384.2).map V.int)), (a4296, .lst w4299), (a4209, .lst [(.int y4196.1)]), (a4178, .lst w4189), (a4060, .lst w4376)] := S4392
          have S4394 := S4392
          rw [frl_ints k4378] at S4394
          have f4395 : FrL H0 G4379 ((y4371.2).map V.int) ((y4371.2).map eI) := ints_frl _
          have S4394 : Sep [] H0 G4379 H4388 [(D4311, .lst acc4359), (a4304, .lst ((y4384.2).map V.int)), (a4296, .lst w4299), (a4209, .lst [(.int y4196.1)]), (a4178, .lst w4189), (a4060, .lst ((y4371.2).map V.int))] := S4394
          cases h
          exact hT _ _ _ _ rfl S4394 sT4361 (.int _)
        rintro G4399 H4400 w4401 S4402 s4403 f4404 n4405 n4406
        have f3979 := f3979.same s4403
        have f4301 := f4301.same s4403
        have f4213 := f4213.same s4403
        have f4191 := f4191.same s4403
        have sE4095 := sE4095.trans s4403
        have f4407 : FrL H0 G4399 ((l4396.2.1).map V.int) ((l4396.2.1).map eI) := ints_frl _
        have f4408 : FrL H0 G4399 ((l4396.2.2).map V.int) ((l4396.2.2).map eI) := ints_frl _
        have S4402 : Sep [] H0 G4399 H4400 [(D4311, .lst w4401), (a4304, .lst ((l4396.2.1).map V.int)), (a4296, .lst w4299), (a4209, .lst [(.int y4196.1)]), (a4178, .lst w4189), (a4060, .lst ((l4396.2.2).map V.int))] := S4402
        refine rd_nameS (σ' := [some (.ref a3978), some (.int a4009.1), some (.int a4009.2), some (.ref a4060), some (.bl (decide (a4009.1 = (lenI (cutL x_script none (some (8 : Int))))))), some (.int a4083), some (.ref a4178), some (.int (lenI y4173.1)), some (.ref a4296), some (.ref a4304), some (.ref D4311), x4102, none]) rfl ?_
        refine rd_mk ?_
        refine rd_seq ?_
        refine rd_asg ?_
        refine rd_call ?_
        refine rd_cons ?_
        refine rd_var rfl ?_
        refine rd_cons ?_
        refine rd_var rfl ?_
        refine rd_nil ?_
        obtain ⟨y4409, h4410, h⟩ := bnd h
        refine ⟨a4060, ((l4396.2.2).map V.int), l4396.2.2, a4178, y4173.1, rfl, (S4402.get 5 rfl), (f4408.rp.same (S4402.hid1 5 rfl)), (S4402.rdM 4 rfl (by simp only [List.mem_cons, List.not_mem_nil, or_false, not_or]; exact S4402.ne (i := 4) (j := 5) rfl rfl (by decide)) (S4402.hid1 5 rfl) f4191), y4409, h4410, fun a4414 w4415 G4411 H4412 R4413 h4416 k4417 f4418 => ?_⟩
        obtain ⟨G4419, S4420, s4421, t4422, l4423⟩ := S4402.ret1 5 rfl R4413 h4416 lst_tup
        have k4417 := l4423 _ _ (k4417.imm (flat_map flI _))
        have f3979 := f3979.same s4421
        have f4404 := f4404.same s4421
        have f4407 := f4407.same s4421
        have f4301 := f4301.same s4421
        have f4213 := f4213.same s4421
        have f4191 := f4191.same s4421
        have f4408 := f4408.same s4421
        have sE4095 := sE4095.trans s4421
        have S4420 : Sep [] H0 G4419 H4412 [(D4311, .lst w4401), (a4304, .lst ((l4396.2.1).map V.int)), (a4296, .lst w4299), (a4209, .lst [(.int y4196.1)]), (a4178, .lst w4189), (a4060, .lst w4415)] := S4420
        have f4418 := t4422 _ _ f4418
        refine rd_nameS (σ' := [some (.ref a3978), some (.int a4009.1), some (.int a4009.2), some (.ref a4060), some (.bl (decide (a4009.1 = (lenI (cutL x_script none (some (8 : Int))))))), some (.int a4083), some (.ref a4178), some (.int (lenI y4173.1)), some (.ref a4296), some (.ref a4304), some (.ref D4311), some (.ref a4414), none]) rfl ?_
        refine rd_mk ?_
        refine rd_seq ?_
        refine rd_ifS ?_
        obtain ⟨b4463, h4464, h⟩ := bnd h
        refine rd_ttM (fun k H' => ∃  (G4465 : Hp), k = b4463 ∧ Sep [] H0 G4465 H' [(D4311, .lst w4401), (a4304, .lst ((l4396.2.1).map V.int)), (a4296, .lst w4299), (a4209, .lst [(.int y4196.1)]), (a4178, .lst w4189), (a4060, .lst w4415)] ∧ Same G4419 G4465) (fun R q => ?_) ?_
        ·
          have sE4424 := Same.refl G4419
          have h := h4464
          refine rd_or ?_
          refine rd_not ?_
          refine rd_tB ?_
          refine rd_call ?_
          refine rd_cons ?_
          refine rd_var rfl ?_
          refine rd_cons ?_
          refine rd_var rfl ?_
          refine rd_cons ?_
          refine rd_var rfl ?_
          refine rd_nil ?_
          obtain ⟨y4425, h4426, h⟩ := bnd h
          refine ⟨a4178, y4173.1, a4296, y4291, D4311, l4396.1, rfl, (S4420.rd 4 rfl f4191), (S4420.rd 2 rfl f4301), (S4420.rd 0 rfl f4404), y4425, h4426, fun G4427 H4428 R4429 => ?_⟩
          obtain ⟨G4430, S4431, s4432, t4433, l4434⟩ := S4420.ret0 R4429
          have f3979 := f3979.same s4432
          have f4418 := f4418.same s4432
          have f4404 := f4404.same s4432
          have f4407 := f4407.same s4432
          have f4301 := f4301.same s4432
          have f4213 := f4213.same s4432
          have f4191 := f4191.same s4432
          have k4417 := k4417.same s4432
          have sE4424 := sE4424.trans s4432
          refine rd_bl ?_
          rcases cnd h with ⟨c4469, h⟩ | ⟨c4469, h⟩
          ·
            refine iteY c4469 ?_
            cases h
            exact q _ _ ⟨G4430, rfl, S4431, sE4424⟩
          ·
            refine iteN c4469 ?_
            obtain ⟨b4455, h4456, h⟩ := bnd h
            refine rd_ttM (fun k H' => ∃  (G4457 : Hp), k = b4455 ∧ Sep [] H0 G4457 H' [(D4311, .lst w4401), (a4304, .lst ((l4396.2.1).map V.int)), (a4296, .lst w4299), (a4209, .lst [(.int y4196.1)]), (a4178, .lst w4189), (a4060, .lst w4415)] ∧ Same G4430 G4457) (fun R q => ?_) ?_
            ·
              have sE4435 := Same.refl G4430
              have h := h4456
              refine rd_and ?_
              refine rd_test ?_
              refine rd_op ?_
              refine rd_var rfl ?_
              refine rd_lstZ ?_
              refine rd_nil ?_
              refine q_lst (F0 := H0) (ds := []) S4431 (by show 0 ≤ LIM; decide) .nil S4431.old fun a4436 G4437 H4438 S4439 s4440 f4441 => ?_
              have f3979 := f3979.same s4440
              have f4418 := f4418.same s4440
              have f4404 := f4404.same s4440
              have f4407 := f4407.same s4440
              have f4301 := f4301.same s4440
              have f4213 := f4213.same s4440
              have f4191 := f4191.same s4440
              have k4417 := k4417.same s4440
              have sE4435 := sE4435.trans s4440
              replace f4441 : Fr H0 G4437 (.ref a4436) ((eL eA) ([] : (List PyData))) := f4441
              obtain ⟨b4442, h4443, h⟩ := bnd h
              refine q_neD (f4418.rp.same S4439.sub) (f4441.rp.same S4439.sub) h4443 ?_
              refine rd_bl ?_
              rcases cnd h with ⟨c4461, h⟩ | ⟨c4461, h⟩
              ·
                refine iteY c4461 ?_
                refine rd_not ?_
                refine rd_tB ?_
                refine rd_call ?_
                refine rd_cons ?_
                refine rd_var rfl ?_
                refine rd_cons ?_
                refine rd_var rfl ?_
                refine rd_cons ?_
                refine rd_var rfl ?_
                refine rd_nil ?_
                obtain ⟨y4444, h4445, h⟩ := bnd h
                refine ⟨a4178, y4173.1, a4414, y4409.1, D4311, l4396.1, rfl, (S4439.rd 4 rfl f4191), (f4418.rp.same S4439.sub), (S4439.rd 0 rfl f4404), y4444, h4445, fun G4446 H4447 R4448 => ?_⟩
                obtain ⟨G4449, S4450, s4451, t4452, l4453⟩ := S4439.ret0 R4448
                have f3979 := f3979.same s4451
                have f4418 := f4418.same s4451
                have f4404 := f4404.same s4451
                have f4407 := f4407.same s4451
                have f4301 := f4301.same s4451
                have f4213 := f4213.same s4451
                have f4191 := f4191.same s4451
                have k4417 := k4417.same s4451
                have sE4435 := sE4435.trans s4451
                refine rd_bl ?_
                cases h
                exact q _ _ ⟨G4449, rfl, S4450, sE4435⟩
              ·
                refine iteN c4461 ?_
                cases h
                exact q _ _ ⟨G4437, rfl, S4439, sE4435⟩
            rintro _ H4458 ⟨G4457, rfl, S4459, s4460⟩
            have f3979 := f3979.same s4460
            have f4418 := f4418.same s4460
            have f4404 := f4404.same s4460
            have f4407 := f4407.same s4460
            have f4301 := f4301.same s4460
            have f4213 := f4213.same s4460
            have f4191 := f4191.same s4460
            have k4417 := k4417.same s4460
            have sE4424 := sE4424.trans s4460
            cases h
            exact q _ _ ⟨G4457, rfl, S4459, sE4424⟩
        rintro _ H4466 ⟨G4465, rfl, S4467, s4468⟩
        have f3979 := f3979.same s4468
        have f4418 := f4418.same s4468
        have f4404 := f4404.same s4468
        have f4407 := f4407.same s4468
        have f4301 := f4301.same s4468
        have f4213 := f4213.same s4468
        have f4191 := f4191.same s4468
        have k4417 := k4417.same s4468
        have sE4095 := sE4095.trans s4468
        rcases cnd h with ⟨c4517, h⟩ | ⟨c4517, h⟩
        ·
          refine iteY c4517 ?_
          refine rd_ret ?_
          refine rd_c ?_
          cases h
          have e4470 := hq4105 _ rfl
          subst e4470
          cases (show some (Ctl.ret false) = some _ from ho4107)
          have e4471 := hq4033 _ rfl
          subst e4471
          cases (show some (false) = some _ from ho4035)
          exact kq _ _ S4467.toRet
        ·
          refine iteN c4517 ?_
          refine rd_next ?_
          refine rd_mk ?_
          refine rd_seq ?_
          refine rd_drop ?_
          refine rd_bm0 ?_
          refine rd_var rfl ?_
          refine ⟨Or.inl ⟨rfl, _, SqL.of (S4467.get 4 rfl)⟩, ?_⟩
          refine q_rev S4467 4 rfl f4191 fun w4472 H4473 S4474 f4475 => ?_
          have S4474 : Sep [] H0 G4465 H4473 [(D4311, .lst w4401), (a4304, .lst ((l4396.2.1).map V.int)), (a4296, .lst w4299), (a4209, .lst [(.int y4196.1)]), (a4178, .lst w4472), (a4060, .lst w4415)] := S4474
          refine rd_mk ?_
          refine rd_seq ?_
          refine rd_asg ?_
          refine rd_call ?_
          refine rd_cons ?_
          refine rd_var rfl ?_
          refine rd_cons ?_
          refine rd_var rfl ?_
          refine rd_nil ?_
          obtain ⟨y4476, h4477, h⟩ := bnd h
          refine ⟨a4060, w4415, y4409.2, (lenI y4173.1), rfl, (S4474.get 5 rfl), (k4417.rp.same (S4474.hid1 5 rfl)), y4476, h4477, fun w4481 G4478 H4479 R4480 h4482 k4483 => ?_⟩
          obtain ⟨G4484, S4485, s4486, t4487, l4488⟩ := S4474.ret1 5 rfl R4480 h4482 lst_tup
          have k4483 := l4488 _ _ (k4483.imm (flat_map flI _))
          have f3979 := f3979.same s4486
          have f4404 := f4404.same s4486
          have f4407 := f4407.same s4486
          have f4301 := f4301.same s4486
          have f4213 := f4213.same s4486
          have f4475 := f4475.same s4486
          have k4417 := k4417.same s4486
          have sE4095 := sE4095.trans s4486
          have S4485 : Sep [] H0 G4484 H4479 [(D4311, .lst w4401), (a4304, .lst ((l4396.2.1).map V.int)), (a4296, .lst w4299), (a4209, .lst [(.int y4196.1)]), (a4178, .lst w4472), (a4060, .lst w4481)] := S4485
          refine rd_sub ?_
          refine rd_var rfl ?_
          refine rd_c ?_
          obtain ⟨l4489, h4490, h⟩ := bnd h
          refine q_setL S4485 2 rfl f4301 (.int _) h4490 fun w4491 H4492 S4493 f4494 => ?_
          have S4493 : Sep [] H0 G4484 H4492 [(D4311, .lst w4401), (a4304, .lst ((l4396.2.1).map V.int)), (a4296, .lst w4491), (a4209, .lst [(.int y4196.1)]), (a4178, .lst w4472), (a4060, .lst w4481)] := S4493
          refine rd_mk ?_
          refine rd_seq ?_
          refine rd_drop ?_
          refine rd_bm0 ?_
          refine rd_var rfl ?_
          refine ⟨Or.inl ⟨rfl, _, SqL.of (S4493.get 0 rfl)⟩, ?_⟩
          refine q_rev S4493 0 rfl f4404 fun w4495 H4496 S4497 f4498 => ?_
          have S4497 : Sep [] H0 G4484 H4496 [(D4311, .lst w4495), (a4304, .lst ((l4396.2.1).map V.int)), (a4296, .lst w4491), (a4209, .lst [(.int y4196.1)]), (a4178, .lst w4472), (a4060, .lst w4481)] := S4497
          refine rd_mk ?_
          refine rd_ifS ?_
          refine rd_not ?_
          refine rd_tB ?_
          refine rd_call ?_
          refine rd_cons ?_
          refine rd_var rfl ?_
          refine rd_cons ?_
          refine rd_var rfl ?_
          refine rd_cons ?_
          refine rd_var rfl ?_
          refine rd_nil ?_
          obtain ⟨y4499, h4500, h⟩ := bnd h
          refine ⟨a4178, y4173.1.reverse, a4296, l4489, D4311, l4396.1.reverse, rfl, (S4497.rd 4 rfl f4475), (S4497.rd 2 rfl f4494), (S4497.rd 0 rfl f4498), y4499, h4500, fun G4501 H4502 R4503 => ?_⟩
          obtain ⟨G4504, S4505, s4506, t4507, l4508⟩ := S4497.ret0 R4503
          have f3979 := f3979.same s4506
          have f4498 := f4498.same s4506
          have f4407 := f4407.same s4506
          have f4494 := f4494.same s4506
          have f4213 := f4213.same s4506
          have f4475 := f4475.same s4506
          have k4483 := k4483.same s4506
          have sE4095 := sE4095.trans s4506
          refine rd_bl ?_
          rcases cnd h with ⟨c4516, h⟩ | ⟨c4516, h⟩
          ·
            refine iteY c4516 ?_
            refine rd_ret ?_
            refine rd_c ?_
            cases h
            have e4509 := hq4105 _ rfl
            subst e4509
            cases (show some (Ctl.ret false) = some _ from ho4107)
            have e4510 := hq4033 _ rfl
            subst e4510
            cases (show some (false) = some _ from ho4035)
            exact kq _ _ S4505.toRet
          ·
            refine iteN c4516 ?_
            refine rd_next ?_
            have S4511 := S4505.drop 0 rfl n4405
            have S4511 : Sep [] H0 G4504 H4502 [(a4304, .lst ((l4396.2.1).map V.int)), (a4296, .lst w4491), (a4209, .lst [(.int y4196.1)]), (a4178, .lst w4472), (a4060, .lst w4481)] := S4511
            have S4512 := S4511.drop 0 rfl n4307
            have S4512 : Sep [] H0 G4504 H4502 [(a4296, .lst w4491), (a4209, .lst [(.int y4196.1)]), (a4178, .lst w4472), (a4060, .lst w4481)] := S4512
            have S4513 := S4512.drop 0 rfl n4300
            have S4513 : Sep [] H0 G4504 H4502 [(a4209, .lst [(.int y4196.1)]), (a4178, .lst w4472), (a4060, .lst w4481)] := S4513
            have S4514 := S4513.drop 0 rfl n4212
            have S4514 : Sep [] H0 G4504 H4502 [(a4178, .lst w4472), (a4060, .lst w4481)] := S4514
            have S4515 := S4514.drop 0 rfl n4194
            have S4515 : Sep [] H0 G4504 H4502 [(a4060, .lst w4481)] := S4515
            cases h
            exact ⟨_, rfl, _, _, _, _, _, _, _, w4481, G4504, rfl, S4515, sE4095, k4483⟩
      rintro r4108 _ H4519 rfl ⟨x4522, x4523, x4524, x4525, x4526, x4527, x4528, w4529, G4518, rfl, S4520, sE4521, f4530⟩
      have h := ho4107
      have f3979 := f3979.same sE4521
      have sE4021 := sE4021.trans sE4521
      have S4531 := S4520.drop 0 rfl n4068
      have S4531 : Sep [] H0 G4518 H4519 [] := S4531
      cases h
      exact ⟨_, rfl, _, _, _, _, _, _, _, _, _, _, _, G4518, rfl, S4531, sE4021⟩
    rintro r4036 _ H4533 rfl ⟨x4536, x4537, x4538, x4539, x4540, x4541, x4542, x4543, x4544, x4545, x4546, G4532, rfl, S4534, sE4535⟩
    have h := ho4035
    have f3979 := f3979.same sE4535
    refine rd_mk ?_
    refine rd_ret ?_
    refine rd_c ?_
    cases h
    exact kq _ _ S4534.toRet
end
end K77

namespace LQF
open PySem L2 LX LQ
def Bg (k : Nat) (l : List Int) : Prop := ∃ a b c : Int, l = [a, b, c] ∧ 0 ≤ b ∧ b < 100000000000000000000000000000000000133 ∧ 0 ≤ c ∧ c ≤ k
theorem Bg.up {k m : Nat} {l : List Int} (h : Bg k l) (z : k ≤ m) : Bg m l := by
  obtain ⟨a, b, c, e, h1, h2, h3, h4⟩ := h
  exact ⟨a, b, c, e, h1, h2, h3, by omega⟩
theorem big1 {i : Int} (h0 : 0 ≤ i) (h : i < 2 ^ 200) : i.natAbs < 2 ^ 1000 := Nat.lt_of_lt_of_le (show i.natAbs < 2 ^ 200 by omega) (Nat.pow_le_pow_right (by decide) (by decide))
theorem m_bag (c : Int) : Ev (F__law_bag c) (Bg 0) := by
  unfold F__law_bag
  refine ev_be (modF_ok (by decide)) (ev_s ⟨_, _, _, rfl, ?_, ?_, by omega, by omega⟩)
  · exact Int.emod_nonneg _ (by decide)
  · exact Int.emod_lt_of_pos _ (by decide)
theorem m_draw {k : Nat} {l : List Int} {n : Int} (h : Bg k l) (hn : 0 < n) (hm : n < 2 ^ 62) (hk : k < 2 ^ 64) : Ev (F__law_draw l n) fun r => 0 ≤ r.1 ∧ r.1 < n ∧ Bg (k + 1) r.2 := by
  obtain ⟨a, b, c, rfl, h1, h2, h3, h4⟩ := h
  unfold F__law_draw
  refine ev_be (x := a) rfl ?_
  refine ev_c (fun ha => ?_) (fun ha => ?_)
  · refine ev_be (x := a) rfl ?_
    refine ev_be (modF_ok hn) ?_
    refine ev_be (x := a) rfl ?_
    refine ev_be (divF_ok hn (by omega)) ?_
    refine ev_be (x := [a / n, b, c]) rfl ?_
    exact ev_s ⟨Int.emod_nonneg _ (by omega), Int.emod_lt_of_pos _ hn, _, _, _, rfl, h1, h2, h3, by omega⟩
  · refine ev_be (x := c) rfl ?_
    refine ev_be (x := [a, b, c + 1]) rfl ?_
    refine ev_be (x := b) rfl ?_
    refine ev_be (x := c + 1) rfl ?_
    refine ev_be (powF_ok (by decide) (by decide) (big1 (by omega) (by omega))) ?_
    refine ev_be (modF_ok (by decide)) ?_
    refine ev_be (x := c + 1) rfl ?_
    have e0 := Int.emod_nonneg ((b + 15485863 * (c + 1)) ^ (3 : Int).toNat) (show (10 : Int) ^ 36 + 67 ≠ 0 by decide)
    have e1 := Int.emod_lt_of_pos ((b + 15485863 * (c + 1)) ^ (3 : Int).toNat) (show 0 < (10 : Int) ^ 36 + 67 by decide)
    have e2 : (10 : Int) ^ 36 + 67 < 2 ^ 190 := by decide
    generalize (b + 15485863 * (c + 1)) ^ (3 : Int).toNat % ((10 : Int) ^ 36 + 67) = y at e0 e1
    refine ev_be (powF_ok (by decide) (by decide) (big1 (by omega) (by omega))) ?_
    refine ev_be (modF_ok (by decide)) ?_
    refine ev_be (divF_ok (by decide) (by decide)) ?_
    refine ev_be (modF_ok hn) ?_
    exact ev_s ⟨Int.emod_nonneg _ (by omega), Int.emod_lt_of_pos _ hn, _, _, _, rfl, h1, h2, by omega, by omega⟩
end LQF

namespace LQF
open PySem L2 LX LQ
def Cl (s : Str) : Prop := ∃ c, s = lt c ∧ 97 ≤ c ∧ c ≤ 122
def okz (z : Str) : Prop := 2 ≤ z.length ∧ z.length ≤ 26 ∧ ∀ c ∈ z.cps.toList, 97 ≤ c ∧ c ≤ 122
theorem okz_of {z : Str} (h : z.cps.toList.all (fun c => decide (97 ≤ c ∧ c ≤ 122)) = true) (h1 : 2 ≤ z.length) (h2 : z.length ≤ 26) : okz z :=
  ⟨h1, h2, fun c hc => of_decide_eq_true (List.all_eq_true.mp h c hc)⟩
theorem okz_len {z : Str} (h : okz z) : lenS z = some (z.length : Int) := by
  unfold lenS
  rw [decide_eq_true (show z.length ≤ LIM from Nat.le_trans h.2.1 (by decide))]
  rfl
theorem okz_at {z : Str} (h : okz z) {i : Int} (h0 : 0 ≤ i) (h1 : i < z.length) : Ev (ixS z i) Cl := by
  have hl : i.toNat < z.cps.toList.length := by
    rw [Array.length_toList]
    have : z.length = z.cps.size := rfl
    omega
  have e : atI z.cps.toList i = some z.cps.toList[i.toNat] := ix_int h0 (List.getElem?_eq_getElem hl)
  unfold ixS
  rw [decide_eq_true (show z.length ≤ LIM from Nat.le_trans h.2.1 (by decide)), e]
  exact ⟨_, rfl, _, rfl, h.2.2 _ (List.getElem_mem hl)⟩
theorem pick5 {r : Int} (r0 : 0 ≤ r) (r1 : r < 5) : Ev (ix [(Str.ofString "ab"), (Str.ofString "abc"), (Str.ofString "abcdefgh"), (Str.ofString "abcdefghijklmnopqrstuvwxyz"), (Str.ofString "zy")] r) okz := by
  have h : r = 0 ∨ r = 1 ∨ r = 2 ∨ r = 3 ∨ r = 4 := by omega
  rcases h with rfl | rfl | rfl | rfl | rfl
  · exact ⟨_, rfl, okz_of (by decide +kernel) (by decide +kernel) (by decide +kernel)⟩
  · exact ⟨_, rfl, okz_of (by decide +kernel) (by decide +kernel) (by decide +kernel)⟩
  · exact ⟨_, rfl, okz_of (by decide +kernel) (by decide +kernel) (by decide +kernel)⟩
  · exact ⟨_, rfl, okz_of (by decide +kernel) (by decide +kernel) (by decide +kernel)⟩
  · exact ⟨_, rfl, okz_of (by decide +kernel) (by decide +kernel) (by decide +kernel)⟩
/-- the lineup amid its making -/
structure Lin (n i k : Nat) (s : List (Int × Str) × List Int × List Int) : Prop where
  ex : ∃ (rr : Row) (ls : List Nat), s.1 = enc rr ∧ s.2.1 = nI ls ∧ rr.length = i ∧ (rr.map (·.1) ++ ls).Perm (List.range n) ∧ ∀ e ∈ rr, 97 ≤ e.2 ∧ e.2 ≤ 122
  bg : Bg k s.2.2
theorem erase_map {α β : Type} (f : α → β) : ∀ (l : List α) (j : Nat), (l.map f).eraseIdx j = (l.eraseIdx j).map f
  | [], _ => rfl
  | x :: l, 0 => rfl
  | x :: l, j + 1 => by
    show f x :: (l.map f).eraseIdx j = f x :: (l.eraseIdx j).map f
    rw [erase_map f l j]
theorem erase_perm {α : Type} : ∀ (l : List α) (j : Nat) (h : j < l.length), (l[j] :: l.eraseIdx j).Perm l
  | [], _, h => nomatch h
  | x :: l, 0, _ => List.Perm.refl _
  | x :: l, j + 1, h => (List.Perm.swap _ _ _).trans ((erase_perm l j (Nat.lt_of_succ_lt_succ h)).cons x)
theorem last_enc {rr : Row} (h : rr ≠ []) (hc : ∀ e ∈ rr, 97 ≤ e.2 ∧ e.2 ≤ 122) (z : rr.length ≤ 1000) : Ev (ix (enc rr) (-(1 : Int))) fun y => Cl y.2 := by
  have hl : 0 < rr.length := by cases rr with | nil => exact absurd rfl h | cons => exact Nat.succ_pos _
  have e : ix (enc rr) (-(1 : Int)) = (enc rr)[rr.length - 1]? := by
    unfold ix atI ixN
    rw [enc_len]
    rw [if_neg (by omega), if_pos (by omega)]
    show (enc rr)[((rr.length : Int) + -1).toNat]? = _
    congr 1
    omega
  rw [e, List.getElem?_map, List.getElem?_eq_getElem (by omega)]
  exact ⟨_, rfl, _, rfl, hc _ (List.getElem_mem _)⟩
theorem m_lineup {k : Nat} {l : List Int} {n : Int} (h : Bg k l) (hn : 1 ≤ n) (hm : n ≤ 60) (hk : k < 2 ^ 60) : Ev (F__law_lineup l n) fun r => ∃ row : Row, Vr row ∧ r.1 = enc row ∧ (row.length : Int) ≤ n ∧ Bg (k + 300) r.2 := by
  unfold F__law_lineup
  refine ev_b (m_draw h (by omega) (by omega) (by omega)) fun y1 ⟨a0, a1, B1⟩ => ?_
  refine ev_b (m_draw B1 (by decide) (by decide) (by omega)) fun y2 ⟨b0, b1, B2⟩ => ?_
  refine ev_b (pick5 b0 b1) fun z hz => ?_
  refine ev_b (m_draw B2 (by decide) (by decide) (by omega)) fun y4 ⟨c0, c1, B4⟩ => ?_
  obtain ⟨m, hm2⟩ : ∃ m : Nat, 1 + y1.1 = (m : Int) := ⟨(1 + y1.1).toNat, by omega⟩
  rw [hm2]
  refine ev_be (lrgF_ok (by decide) (by decide) (by omega) (by omega) (by unfold LIM; omega)) ?_
  refine ev_be (rngF_ok (by decide) (by decide) (by omega) (by omega)) ?_
  rw [rgI_nat]
  refine ev_b (ev_loop (P := fun s => Lin m m (k + 3 + 3 * m) s) (fun i s => i ≤ m ∧ Lin m i (k + 3 + 3 * i) s) ⟨Nat.zero_le _, ⟨[], List.range m, rfl, rfl, rfl, List.Perm.refl _, fun e he => nomatch he⟩, B4⟩ ?_ ?_) ?_
  · rintro i x ⟨f, lf, bg⟩ hi ⟨im, ⟨rr, ls, e1, e2, len, pm, col⟩, B⟩
    dsimp only at e1 e2 B
    subst e1
    subst e2
    rw [List.getElem?_map] at hi
    obtain ⟨i', hi', rfl⟩ := Option.map_eq_some_iff.mp hi
    have il := (List.getElem?_eq_some_iff.mp hi').1
    rw [List.length_range] at il
    rw [okz_len hz]
    refine ev_be rfl ?_
    have z2 := hz.1
    have z26 := hz.2.1
    refine ev_b (m_draw B (by omega) (by omega) (by omega)) fun y5 ⟨d0, d1, B5⟩ => ?_
    refine ev_b (okz_at hz d0 d1) fun c hc => ?_
    refine ev_b (P := fun p => Cl p.1 ∧ Bg (k + 3 + 3 * i + 2) p.2) ?_ fun p ⟨hp, Bp⟩ => ?_
    · refine ev_b (P := fun p => Bg (k + 3 + 3 * i + 2) p.2 ∧ (p.1 = true → rr ≠ [])) ?_ fun p ⟨Bp, ne⟩ => ?_
      · refine ev_c (fun _ => ?_) (fun _ => ev_s ⟨B5.up (by omega), fun h => nomatch h⟩)
        have e := eqRow.run (by decide) (ok_enc col) (show ∀ x ∈ ([] : List (Int × Str)), True ∧ PyData.strOk x.2 = true from fun x hx => nomatch hx)
        refine ev_be e ?_
        refine ev_c (fun h => ?_) (fun _ => ev_s ⟨B5.up (by omega), fun h => nomatch h⟩)
        refine ev_b (m_draw B5 (by decide) (by decide) (by omega)) fun y6 ⟨g0, g1, B6⟩ => ?_
        refine ev_s ⟨B6, fun _ z => ?_⟩
        rw [z] at h
        simp at h
      · refine ev_c (fun h => ?_) (fun _ => ev_s ⟨hc, Bp⟩)
        have n2 := h
        refine ev_b (last_enc (ne n2) col (by omega)) fun y hy => ?_
        exact ev_s ⟨hy, Bp⟩
    · refine ev_b (P := Cl) ?_ fun c2 hc2 => ?_
      · refine ev_c (fun _ => ?_) (fun _ => ev_s hp)
        refine ev_b (okz_at hz ?_ ?_) fun y hy => ev_s hy
        · unfold b2I; split <;> omega
        · unfold b2I; split <;> omega
      · have pl := pm.length_eq
        rw [List.length_append, List.length_map, List.length_range] at pl
        have ll : lenI (nI ls) = (ls.length : Int) := by unfold lenI; rw [List.length_map]
        rw [ll]
        refine ev_b (m_draw Bp (by omega) (by omega) (by omega)) fun y7 ⟨f0, f1, B7⟩ => ?_
        obtain ⟨j, hj⟩ : ∃ j : Nat, y7.1 = (j : Int) := ⟨y7.1.toNat, by omega⟩
        rw [hj]
        have jl : j < ls.length := by omega
        refine ev_be (popAt_nat (x := (ls[j] : Int)) (by rw [List.getElem?_map, List.getElem?_eq_getElem jl]; rfl) (by rw [List.length_map]; unfold LIM; omega)) ?_
        refine ev_be (appF_ok (by rw [enc_len]; unfold LIM; omega)) ?_
        obtain ⟨c, rfl, hc97⟩ := hc2
        refine ev_s ⟨by omega, ⟨rr ++ [(ls[j], c)], ls.eraseIdx j, by show enc rr ++ [eRow (ls[j], c)] = _; rw [enc, enc, List.map_append]; rfl, ?_, by rw [List.length_append]; simp [len], ?_, ?_⟩, B7.up (by omega)⟩
        · show (nI ls).eraseIdx j = nI (ls.eraseIdx j)
          exact erase_map _ _ _
        · rw [List.map_append, List.append_assoc]
          refine List.Perm.trans (List.Perm.append_left _ ?_) pm
          exact erase_perm ls j jl
        · intro e he
          rcases List.mem_append.mp he with h1 | h1
          · exact col e h1
          · rw [List.mem_singleton.mp h1]
            exact hc97
  · intro s ⟨_, h⟩
    rw [List.length_map, List.length_range] at h
    exact h
  · rintro ⟨f, lf, bg⟩ ⟨⟨rr, ls, e1, e2, len, pm, col⟩, B⟩
    dsimp only at e1 e2 B
    have pl := pm.length_eq
    rw [List.length_append, List.length_map, List.length_range] at pl
    have l0 : ls = [] := List.eq_nil_of_length_eq_zero (by omega)
    rw [l0, List.append_nil] at pm
    exact ev_s ⟨rr, ⟨by omega, by omega, col, by rw [len]; exact pm⟩, e1, by omega, B.up (by omega)⟩
end LQF

namespace LQF
open PySem L2 LX LQ
theorem m_calls {k : Nat} {l : List Int} {n mo : Int} (h : Bg k l) (hn : 1 ≤ n) (hm : n ≤ 60) (h0 : 0 ≤ mo) (h1 : mo ≤ 300) (hk : k < 2 ^ 60) :
    Ev (F__law_calls l n mo) fun r => ∃ cs : List Nat, r.1 = nI cs ∧ (∀ c ∈ cs, (c : Int) < n) ∧ (cs.length : Int) ≤ mo ∧ Bg (k + 1000) r.2 := by
  unfold F__law_calls
  refine ev_b (m_draw h (by decide) (by decide) (by omega)) fun y1 ⟨a0, a1, B1⟩ => ?_
  refine ev_b (P := fun v => 1 ≤ v ∧ v ≤ n) ?_ fun v ⟨v0, v1⟩ => ?_
  · have mi : minI n 3 = min n 3 := minI_eq
    have z : y1.1 = 0 ∨ y1.1 = 1 ∨ y1.1 = 2 ∨ y1.1 = 3 := by omega
    rcases z with z | z | z | z <;> rw [z]
    · exact ⟨_, rfl, hn, by omega⟩
    · exact ⟨_, rfl, by omega, by omega⟩
    · exact ⟨_, rfl, hn, by omega⟩
    · exact ⟨_, rfl, hn, by omega⟩
  refine ev_b (m_draw B1 (by omega) (by omega) (by omega)) fun y3 ⟨c0, c1, B3⟩ => ?_
  refine ev_b (m_draw B3 (by omega) (by omega) (by omega)) fun y4 ⟨d0, d1, B4⟩ => ?_
  obtain ⟨m, hm2⟩ : ∃ m : Nat, y4.1 = (m : Int) := ⟨y4.1.toNat, by omega⟩
  rw [hm2]
  refine ev_be (rngF_ok (by decide) (by decide) (by omega) (by omega)) ?_
  rw [rgI_nat]
  refine ev_b (ev_loop (P := fun s => Bg (k + 1000) s.2 ∧ ∃ cs : List Nat, s.1 = nI cs ∧ (∀ c ∈ cs, (c : Int) < n)) (fun i s => i ≤ m ∧ Bg (k + 3 + 2 * i) s.2 ∧ ∃ cs : List Nat, s.1 = nI cs ∧ (∀ c ∈ cs, (c : Int) < n) ∧ cs.length ≤ 3 * i) ⟨Nat.zero_le _, B4, [], rfl, (fun c hc => nomatch hc), Nat.le_refl _⟩ ?_ ?_) ?_
  · rintro i x ⟨f, bg⟩ hi ⟨im, B, cs, e, hc, lc⟩
    dsimp only at e B
    subst e
    rw [List.getElem?_map] at hi
    obtain ⟨i', hi', rfl⟩ := Option.map_eq_some_iff.mp hi
    have il := (List.getElem?_eq_some_iff.mp hi').1
    rw [List.length_range] at il
    refine ev_b (m_draw B (by omega) (by omega) (by omega)) fun y5 ⟨e0, e1, B5⟩ => ?_
    refine ev_b (P := fun _ => True) ?_ fun y6 _ => ?_
    · unfold b2I
      split
      · exact ⟨_, rfl, trivial⟩
      · exact ⟨_, rfl, trivial⟩
    refine ev_be (modF_ok (by omega)) ?_
    have g0 := Int.emod_nonneg (y3.1 + y6) (show n ≠ 0 by omega)
    have g1 := Int.emod_lt_of_pos (y3.1 + y6) (show 0 < n by omega)
    generalize (y3.1 + y6) % n = q at g0 g1
    obtain ⟨qn, rfl⟩ : ∃ qn : Nat, q = (qn : Int) := ⟨q.toNat, by omega⟩
    refine ev_b (m_draw B5 (by decide) (by decide) (by omega)) fun y7 ⟨f0, f1, B7⟩ => ?_
    refine ev_b (P := fun v => 0 ≤ v ∧ v ≤ 2) ?_ fun w ⟨w0, w1⟩ => ?_
    · have z : y7.1 = 0 ∨ y7.1 = 1 ∨ y7.1 = 2 ∨ y7.1 = 3 := by omega
      rcases z with z | z | z | z <;> rw [z] <;> exact ⟨_, rfl, by omega, by omega⟩
    have small : ∀ i : Int, 0 ≤ i → i ≤ 2 → i.natAbs < 2 ^ 100000 := fun i h1 h2 => Nat.lt_of_lt_of_le (show i.natAbs < 2 ^ 2 by omega) (Nat.pow_le_pow_right (by decide) (by decide))
    have b01 : ∀ b : Bool, 0 ≤ b2I b ∧ b2I b ≤ 1 := fun b => by cases b <;> decide
    have bb := b01 (decide (y1.1 = 3))
    generalize b2I (decide (y1.1 = 3)) = t at bb
    refine ev_be (mulF_ok (small _ w0 w1) (small _ bb.1 (by omega))) ?_
    have wt : 0 ≤ w * t ∧ w * t ≤ 2 := by
      have z : t = 0 ∨ t = 1 := by omega
      rcases z with rfl | rfl <;> omega
    generalize w * t = u at wt
    refine ev_be (repF_ok (by omega) (by omega) (by unfold LIM; simp; omega)) ?_
    have er : (List.replicate (1 + u).toNat [(qn : Int)]).flatten = nI (List.replicate (1 + u).toNat qn) := by
      rw [LX.flat_rep]
      show _ = List.map _ _
      rw [List.map_replicate]
    rw [er]
    refine ev_be (catF_ok (by rw [List.length_map, List.length_map, List.length_replicate]; unfold LIM; omega)) ?_
    refine ev_s ⟨by omega, B7.up (by omega), cs ++ List.replicate (1 + u).toNat qn, ?_, ?_, ?_⟩
    · show nI cs ++ nI _ = nI _
      rw [nI, nI, nI, List.map_append]
    · intro c h
      rcases List.mem_append.mp h with h | h
      · exact hc c h
      · rw [(List.mem_replicate.mp h).2]
        exact g1
    · rw [List.length_append, List.length_replicate]
      omega
  · intro s ⟨_, B, cs, e, hc, _⟩
    rw [List.length_map, List.length_range] at B
    exact ⟨B.up (by omega), cs, e, hc⟩
  · rintro ⟨f, bg⟩ ⟨B, cs, e, hc⟩
    dsimp only at e B
    subst e
    obtain ⟨mn, rfl⟩ : ∃ mn : Nat, mo = (mn : Int) := ⟨mo.toNat, by omega⟩
    refine ev_s ⟨cs.take mn, ?_, fun c h => hc c (List.mem_of_mem_take h), ?_, B⟩
    · rw [cutL_to]
      show (nI cs).take mn = _
      rw [nI, nI, List.map_take]
    · rw [List.length_take]
      omega
end LQF

namespace LQF
open PySem L2 LX LQ
theorem m_is_integer (v : Int) : F_is_integer v = some true := rfl
theorem m_is_color {c : Nat} (h : 97 ≤ c ∧ c ≤ 122) : F_is_color (lt c) = some true := by
  have e := lt_col h
  unfold F_is_color
  show Option.bind (cond (decide ((1 : Int) = 1)) (some ((!ltS (lt c) (Str.ofString "a")) && (!ltS (Str.ofString "z") (lt c)))) (some false)) _ = _
  rw [e]
  rfl
theorem m_is_colored_integer {e : Nat × Nat} (h : 97 ≤ e.2 ∧ e.2 ≤ 122) : F_is_colored_integer (eRow e) = some true := by
  unfold F_is_colored_integer
  rw [m_is_integer, show F_is_color (eRow e).2 = some true from m_is_color h]
  rfl
theorem lenI_enc (r : Row) : lenI (enc r) = (r.length : Int) := by unfold lenI; rw [enc_len]
theorem loopC_nx {α R S : Type} {f : α → S → Option (Ctl R S)} {s : S} : ∀ {l : List α}, (∀ x ∈ l, f x s = some (.nx s)) → loopC f l s = some (.nx s)
  | [], _ => rfl
  | x :: l, h => by
    show (f x s).bind _ = _
    rw [h x List.mem_cons_self]
    exact loopC_nx fun y hy => h y (List.mem_cons_of_mem _ hy)
theorem loopF_nx {α S : Type} {f : α → S → Option S} {s : S} : ∀ {l : List α}, (∀ x ∈ l, f x s = some s) → loopF f l s = some s
  | [], _ => rfl
  | x :: l, h => by
    show (f x s).bind _ = _
    rw [h x List.mem_cons_self]
    exact loopF_nx fun y hy => h y (List.mem_cons_of_mem _ hy)
theorem sort_nI {ns : List Int} {n : Nat} (p : ns.Perm (nI (List.range n))) : sortI ns = nI (List.range n) := by
  unfold sortI
  refine List.Perm.eq_of_pairwise (le := fun a b : Int => decide (a ≤ b) = true) (fun a b _ _ x y => by rw [decide_eq_true_iff] at *; omega) ?_ ?_ ((List.mergeSort_perm _ _).trans p)
  · exact List.pairwise_mergeSort (fun a b c x y => by rw [decide_eq_true_iff] at *; omega) (fun a b => by simp; omega) ns
  · rw [nI, List.pairwise_map]
    exact List.pairwise_lt_range.imp fun h => by rw [decide_eq_true_iff]; omega
theorem ev_eq {o : Option Bool} (h : o = some true) : (o.bind fun b => some b) = some true := by rw [h]; rfl
theorem m_is_lineup {r : Row} (V : Vr r) : F_is_lineup (enc r) = some true := by
  have n1 := V.n1
  have n2 := V.n2
  unfold F_is_lineup
  rw [lenI_enc, decide_eq_true (show (1 : Int) ≤ r.length by omega), decide_eq_true (show (r.length : Int) ≤ 60 by omega)]
  show Option.bind (loopC _ (enc r) ()) _ = _
  rw [loopC_nx (fun x hx => by
    obtain ⟨e, he, rfl⟩ := List.mem_map.mp hx
    rw [m_is_colored_integer (V.col e he)]
    rfl)]
  show Option.bind (compL _ _) _ = _
  refine be (compL_map (g := fun a : Int × Str => a.1) (by rw [enc_len]; unfold LIM; omega) (fun _ _ => rfl)) ?_
  refine be (lrgF_ok (by decide) (by decide) (by omega) (by omega) (by unfold LIM; omega)) ?_
  rw [rgI_nat]
  have e : (enc r).map (fun a : Int × Str => a.1) = nI (r.map (·.1)) := by
    show List.map _ (List.map _ r) = List.map _ (List.map _ r)
    rw [List.map_map, List.map_map]
    rfl
  rw [e, sort_nI (V.perm.map _)]
  have q := (EqE.list EqE.int).run (by decide) (x := nI (List.range r.length)) (y := nI (List.range r.length)) (fun _ _ => trivial) (fun _ _ => trivial)
  rw [decide_eq_true rfl] at q
  exact ev_eq q
theorem m_check_lineup {r : Row} (V : Vr r) : F_check_lineup (enc r) = some () := by
  unfold F_check_lineup
  rw [m_is_lineup V]
  rfl
end LQF

namespace LQF
open PySem L2 LX LQ
theorem m_is_person {r : Row} {p : Nat} (h : p < r.length) : F_is_person (enc r) (p : Int) = some true := by
  unfold F_is_person
  rw [m_is_integer, lenI_enc, decide_eq_true (show (0 : Int) ≤ p by omega), decide_eq_true (show (p : Int) < r.length by omega)]
  rfl
theorem m_check_calls {r : Row} {cs : List Nat} (h : ∀ c ∈ cs, c < r.length) : F_check_calls (enc r) (nI cs) = some () := by
  unfold F_check_calls
  show Option.bind (loopF _ _ _) _ = _
  rw [loopF_nx fun x hx => ?_]
  · rfl
  obtain ⟨i, hi⟩ := List.getElem?_of_mem hx
  obtain ⟨_, h2⟩ := enum_at hi
  have := List.mem_of_getElem? h2
  obtain ⟨c, hc, e⟩ := List.mem_map.mp this
  rw [← e, m_is_person (h c hc)]
  rfl
theorem m_fo {r : Row} (c : Nat) : F_first_other_color (enc r) (lt c) = some ((fo r c).map lt) := by
  unfold F_first_other_color
  have e : ∀ r : Row, loopC (R := Option Str) (fun (a : (Int × Str)) (s : Unit) => cond (!(decide (a.2 = lt c))) (some (.ret (some a.2))) (some (.nx ()))) (enc r) () = some (match fo r c with | none => .nx () | some d => .ret (some (lt d))) := by
    intro r
    induction r with
    | nil => rfl
    | cons e r ih =>
      show Option.bind (cond (!(decide (lt e.2 = lt c))) _ _) _ = _
      rw [lt_dec]
      by_cases h : e.2 = c
      · rw [decide_eq_true h, fo_no h]
        exact ih
      · rw [decide_eq_false h, fo_yes h]
        rfl
  rw [e]
  cases fo r c <;> rfl
theorem m_byPerson {r : Row} (V : Vr r) : F_colors_by_person (enc r) = some ((List.range r.length).map fun q => lt (colOf r q)) := by
  have n2 := V.n2
  unfold F_colors_by_person
  rw [lenI_enc, repF_ok (by omega) (by omega) (by unfold LIM; simp; omega), LX.flat_rep, Int.toNat_natCast]
  show Option.bind (loopF _ _ _) _ = _
  have key : ∀ (s : Row) (l : List Str), (∀ e ∈ s, e.1 < l.length) → loopF (fun (a2055 : (Int × Str)) (s2056 : (List Str)) => (setF s2056 a2055.1 a2055.2).bind fun l2085 => some l2085) (enc s) l = some (s.foldl (fun l e => l.set e.1 (lt e.2)) l) := by
    intro s
    induction s with
    | nil => intro l _; rfl
    | cons e s ih =>
      intro l h
      show Option.bind (Option.bind (setF l (e.1 : Int) (lt e.2)) _) _ = _
      rw [setF_nat (h e List.mem_cons_self)]
      exact ih _ fun x hx => by rw [List.length_set]; exact h x (List.mem_cons_of_mem _ hx)
  rw [key r _ fun e he => by rw [List.length_replicate]; exact V.lt he]
  show some _ = some _
  congr 1
  have fl : ∀ (s : Row) (l : List Str), (s.foldl (fun l e => l.set e.1 (lt e.2)) l).length = l.length := by
    intro s
    induction s with
    | nil => intro l; rfl
    | cons e s ih => intro l; rw [List.foldl_cons, ih, List.length_set]
  have fno : ∀ (q : Nat) (s : Row) (l : List Str), (∀ e ∈ s, e.1 ≠ q) → (s.foldl (fun l e => l.set e.1 (lt e.2)) l)[q]? = l[q]? := by
    intro q s
    induction s with
    | nil => intro l _; rfl
    | cons e s ih =>
      intro l h
      rw [List.foldl_cons, ih _ fun x hx => h x (List.mem_cons_of_mem _ hx), List.getElem?_set_ne (h e List.mem_cons_self)]
  have fat : ∀ (q : Nat) (s : Row) (l : List Str), (s.map (·.1)).Nodup → q < l.length → (∃ e ∈ s, e.1 = q) → (s.foldl (fun l e => l.set e.1 (lt e.2)) l)[q]? = some (lt (colOf s q)) := by
    intro q s
    induction s with
    | nil => intro l _ _ ⟨e, he, _⟩; cases he
    | cons e s ih =>
      intro l nd hl h
      have nd' := List.nodup_cons.mp (show (e.1 :: s.map (·.1)).Nodup from nd)
      rw [List.foldl_cons]
      by_cases c : e.1 = q
      · rw [fno q s _ fun x hx z => nd'.1 (by rw [c, ← z]; exact List.mem_map_of_mem (f := (·.1)) hx), c, List.getElem?_set_self hl]
        unfold colOf
        rw [List.find?_cons_of_pos (by simpa using c)]
        rfl
      · rw [ih _ nd'.2 (by rw [List.length_set]; exact hl) ?_]
        · unfold colOf
          rw [List.find?_cons_of_neg (by simpa using c)]
        · obtain ⟨x, hx, hq⟩ := h
          rcases List.mem_cons.mp hx with z | z
          · exact absurd (z ▸ hq) c
          · exact ⟨x, z, hq⟩
  apply List.ext_getElem?
  intro q
  rw [List.getElem?_map]
  by_cases c : q < r.length
  · rw [fat q r _ V.nodup (by rw [List.length_replicate]; exact c) (V.has c), List.getElem?_range c]
    rfl
  · rw [List.getElem?_eq_none (by rw [fl, List.length_replicate]; omega), List.getElem?_eq_none (by rw [List.length_range]; omega)]
    rfl
theorem ix_colors {r : Row} {p : Nat} (h : p < r.length) : ix ((List.range r.length).map fun q => lt (colOf r q)) (p : Int) = some (lt (colOf r p)) :=
  ix_nat (by rw [List.getElem?_map, List.getElem?_range h]; rfl)
theorem m_apply {r : Row} (V : Vr r) {p : Nat} (h : p < r.length) : F_apply_call (enc r) (p : Int) = some (enc (app r p), (fo r (colOf r p)).map lt) := by
  have n2 := V.n2
  unfold F_apply_call
  rw [m_byPerson V]
  show Option.bind (ix _ _) _ = _
  rw [ix_colors h]
  show Option.bind (F_first_other_color _ _) _ = _
  rw [m_fo]
  show Option.bind (compL _ _) _ = _
  refine be (compL_filt (q := fun a : Int × Str => !decide (a.1 = (p : Int))) (g := fun a => a) (by rw [enc_len]; unfold LIM; omega) (fun x _ => by cases c : decide (x.1 = (p : Int)) <;> simp)) ?_
  rw [List.map_id']
  have ef : (enc r).filter (fun a : Int × Str => !decide (a.1 = (p : Int))) = enc (r.filter fun e => e.1 != p) := by
    show (List.map _ r).filter _ = List.map _ (r.filter _)
    rw [List.filter_map]
    congr 1
    apply List.filter_congr
    intro e _
    show (!decide ((e.1 : Int) = (p : Int))) = (e.1 != p)
    have : decide ((e.1 : Int) = (p : Int)) = (e.1 == p) := Bool.eq_iff_iff.mpr ⟨fun h => by simp at h ⊢; omega, fun h => by simp at h ⊢; omega⟩
    rw [this]
    rfl
  rw [ef]
  show Option.bind (cond (Option.isNone _) _ _) _ = _
  have key : (cond ((fo r (colOf r p)).map lt).isNone (some (lt (colOf r p))) (((fo r (colOf r p)).map lt).bind fun o => some o)) = some (lt ((fo r (colOf r p)).getD (colOf r p))) := by
    cases fo r (colOf r p) <;> rfl
  rw [key]
  show Option.bind (catF _ _) _ = _
  rw [catF_ok (by
    have : (r.filter fun e => e.1 != p).length ≤ r.length := List.length_filter_le _ _
    rw [enc_len]
    show 1 + _ ≤ LIM
    unfold LIM
    omega)]
  rfl
theorem m_after {r : Row} (V : Vr r) {cs : List Nat} (h : ∀ c ∈ cs, c < r.length) : F_lineup_after (enc r) (nI cs) = some (enc (apps r cs)) := by
  unfold F_lineup_after
  rw [m_check_lineup V]
  show Option.bind (F_check_calls _ _) _ = _
  rw [m_check_calls h]
  show Option.bind (loopF _ _ _) _ = _
  have key : ∀ (cs : List Nat) (r : Row), Vr r → (∀ c ∈ cs, c < r.length) → loopF (fun (a2575 : Int) (s2576 : (List (Int × Str))) => (F_apply_call s2576 a2575).bind fun y2599 => some y2599.1) (nI cs) (enc r) = some (enc (apps r cs)) := by
    intro cs
    induction cs with
    | nil => intro r _ _; rfl
    | cons p cs ih =>
      intro r V h
      have hp := h p List.mem_cons_self
      show Option.bind (Option.bind (F_apply_call (enc r) (p : Int)) _) _ = _
      rw [m_apply V hp]
      exact ih (app r p) (V.app hp) fun c hc => by rw [app_len V hp]; exact h c (List.mem_cons_of_mem _ hc)
  rw [key cs r V h]
  rfl
end LQF

namespace LX
open PySem L2
/-! ### the called people stand in front, in at most two colors -/
theorem fo_two (a b : Row) (c : Nat) : fo (a ++ b) c = (fo a c).or (fo b c) := by
  unfold fo
  rw [List.find?_append]
  cases a.find? fun e => e.2 != c <;> rfl
theorem fo_in {a : Row} {c d : Nat} (h : fo a c = some d) : d ≠ c ∧ ∃ e ∈ a, e.2 = d := by
  unfold fo at h
  obtain ⟨e, he, rfl⟩ := Option.map_eq_some_iff.mp h
  have h2 := List.find?_some he
  exact ⟨by simpa using h2, e, List.mem_of_find?_eq_some he, rfl⟩
theorem fo_all_is {a : Row} {c : Nat} (h : fo a c = none) : ∀ e ∈ a, e.2 = c := by
  unfold fo at h
  rw [Option.map_eq_none_iff, List.find?_eq_none] at h
  exact fun e he => by simpa using h e he
/-- front and rest after some calls -/
structure Split (r : Row) (cs : List Nat) (A B : Row) : Prop where
  eq : r = A ++ B
  called : ∀ e ∈ A, e.1 ∈ cs
  others : ∀ e ∈ B, e.1 ∉ cs
  two : ∃ x y, ∀ e ∈ A, e.2 = x ∨ e.2 = y
theorem Split.nil (r : Row) : Split r [] [] r := ⟨rfl, (fun e he => nomatch he), (fun e _ h => nomatch h), 0, 0, fun e he => nomatch he⟩
theorem Split.call {r : Row} {cs : List Nat} {A B : Row} (S : Split r cs A B) (p : Nat) : Split (app r p) (cs ++ [p]) ((p, (fo r (colOf r p)).getD (colOf r p)) :: A.filter fun e => e.1 != p) (B.filter fun e => e.1 != p) := by
  refine ⟨?_, fun e he => ?_, fun e he => ?_, ?_⟩
  · show (p, (fo r (colOf r p)).getD (colOf r p)) :: r.filter (fun e => e.1 != p) = _
    rw [show r.filter (fun e => e.1 != p) = A.filter (fun e => e.1 != p) ++ B.filter (fun e => e.1 != p) from by rw [S.eq, List.filter_append]]
    rfl
  · rcases List.mem_cons.mp he with z | z
    · rw [z]; exact List.mem_append_right _ List.mem_cons_self
    · exact List.mem_append_left _ (S.called e (List.mem_filter.mp z).1)
  · obtain ⟨h1, h2⟩ := List.mem_filter.mp he
    have h2 : e.1 ≠ p := by simpa using h2
    intro h
    rcases List.mem_append.mp h with z | z
    · exact S.others e h1 z
    · exact h2 (List.mem_singleton.mp z)
  · obtain ⟨x, y, xy⟩ := S.two
    generalize colOf r p = c
    cases q : fo A c with
    | some d =>
      obtain ⟨_, e, he, ed⟩ := fo_in q
      have en : (fo r c).getD c = d := by rw [S.eq, fo_two, q]; rfl
      refine ⟨x, y, fun u hu => ?_⟩
      rcases List.mem_cons.mp hu with z | z
      · rw [z]
        show (fo r c).getD c = x ∨ (fo r c).getD c = y
        rw [en, ← ed]
        exact xy e he
      · exact xy u (List.mem_filter.mp z).1
    | none =>
      refine ⟨(fo r c).getD c, c, fun u hu => ?_⟩
      rcases List.mem_cons.mp hu with z | z
      · rw [z]; exact Or.inl rfl
      · exact Or.inr (fo_all_is q u (List.mem_filter.mp z).1)
theorem split_more {r : Row} {cs : List Nat} {A B : Row} (S : Split r cs A B) : ∀ ds : List Nat, ∃ A' B', Split (apps r ds) (cs ++ ds) A' B'
  | [] => ⟨A, B, by rw [List.append_nil]; exact S⟩
  | p :: ds => by
    obtain ⟨A', B', S'⟩ := split_more (S.call p) ds
    rw [List.append_assoc] at S'
    exact ⟨A', B', S'⟩
theorem split_calls (r : Row) (cs : List Nat) : ∃ A B, Split (apps r cs) cs A B := split_more (Split.nil r) cs
/-- two colors in front: a call takes the other one -/
theorem Split.takes {r : Row} {cs : List Nat} {A B : Row} (S : Split r cs A B) {e e' : Nat × Nat} (h : e ∈ A) (h' : e' ∈ A) (ne : e.2 ≠ e'.2) (c : Nat) : (fo r c).getD c ≠ c ∧ ∃ u ∈ A, u.2 = (fo r c).getD c := by
  cases q : fo A c with
  | some d =>
    have en : (fo r c).getD c = d := by rw [S.eq, fo_two, q]; rfl
    rw [en]
    exact fo_in q
  | none => exact absurd ((fo_all_is q e h).trans (fo_all_is q e' h').symm) ne
end LX

namespace LX
open PySem L2
theorem fp_filt {r : Row} {p q : Nat} (h : q ≠ p) : colOf (r.filter fun e => e.1 != p) q = colOf r q := by
  induction r with
  | nil => rfl
  | cons e r ih =>
    unfold colOf at ih ⊢
    by_cases c : e.1 = p
    · rw [List.filter_cons_of_neg (by simp [c]), ih, List.find?_cons_of_neg (by simp [c]; exact fun z => h z.symm)]
    · rw [List.filter_cons_of_pos (by simp [c])]
      by_cases d : e.1 = q
      · rw [List.find?_cons_of_pos (by simp [d]), List.find?_cons_of_pos (by simp [d])]
      · rw [List.find?_cons_of_neg (by simp [d]), List.find?_cons_of_neg (by simp [d]), ih]
theorem fp_app (r : Row) (p q : Nat) : colOf (app r p) q = if q = p then (fo r (colOf r p)).getD (colOf r p) else colOf r q := by
  have e : app r p = (p, (fo r (colOf r p)).getD (colOf r p)) :: r.filter fun e => e.1 != p := rfl
  rw [e]
  by_cases h : q = p
  · rw [if_pos h, h]
    unfold colOf
    rw [List.find?_cons_of_pos (by simp)]
    rfl
  · have e2 : ∀ (c : Nat) (F : Row), colOf ((p, c) :: F) q = colOf F q := fun c F => by
      unfold colOf
      rw [List.find?_cons_of_neg (by
        show ¬ (p == q) = true
        rw [beq_iff_eq]
        exact fun z => h z.symm)]
    rw [if_neg h, e2, fp_filt h]
/-- whether two people have different colors -/
def dif (r : Row) (a b : Nat) : Bool := !decide (colOf r a = colOf r b)
/-- both colors are worn in front -/
def Both (A : Row) : Prop := ∃ e ∈ A, ∃ e' ∈ A, e.2 ≠ e'.2
/-- one call, two colors in front: who is called changes sides -/
theorem flip_one {r : Row} {cs : List Nat} {A B : Row} (S : Split r cs A B) (hb : Both A) {a b : Nat} (ha : ∃ e ∈ A, e.2 = colOf r a) (hb2 : ∃ e ∈ A, e.2 = colOf r b) (p : Nat) :
    dif (app r p) a b = (dif r a b ^^ (decide (a = p) ^^ decide (b = p))) := by
  obtain ⟨e, he, e', he', ne⟩ := hb
  obtain ⟨x, y, xy⟩ := S.two
  have in2 : ∀ {c : Nat}, (∃ u ∈ A, u.2 = c) → c = x ∨ c = y := fun ⟨u, hu, h⟩ => by rw [← h]; exact xy u hu
  have xny : x ≠ y := fun z => by
    have h1 := xy e he
    have h2 := xy e' he'
    rw [z] at h1 h2
    exact ne ((h1.elim id id).trans (h2.elim id id).symm)
  have tk : ∀ c : Nat, (c = x ∨ c = y) → (fo r c).getD c = if c = x then y else x := fun c hc => by
    have h := S.takes he he' ne c
    have h3 := in2 h.2
    generalize (fo r c).getD c = d at h h3
    rcases hc with z | z <;> rcases h3 with z2 | z2
    · exact absurd (z2.trans z.symm) h.1
    · rw [if_pos z, z2]
    · rw [if_neg (by rw [z]; exact Ne.symm xny), z2]
    · exact absurd (z2.trans z.symm) h.1
  have ca := in2 ha
  have cb := in2 hb2
  unfold dif
  rw [fp_app, fp_app]
  by_cases h1 : a = p
  · by_cases h2 : b = p
    · rw [if_pos h1, if_pos h2, h1, h2]
      simp
    · rw [if_pos h1, if_neg h2, ← h1, tk _ ca]
      rcases ca with z | z <;> rcases cb with z2 | z2 <;> simp [z, z2, xny, Ne.symm xny] <;> (rw [← h1] at h2; simp [h2])
  · by_cases h2 : b = p
    · rw [if_neg h1, if_pos h2, ← h2, tk _ cb]
      rcases ca with z | z <;> rcases cb with z2 | z2 <;> simp [z, z2, xny, Ne.symm xny] <;> (rw [← h2] at h1; simp [h1])
    · rw [if_neg h1, if_neg h2]
      simp [h1, h2]
end LX

namespace LX
open PySem L2
/-! ### rounds: the order of the persons -/
def mv (q : List Nat) (p : Nat) : List Nat := p :: q.filter (· != p)
theorem app_persons (r : Row) (p : Nat) : (app r p).map (·.1) = mv (r.map (·.1)) p := by
  show p :: (r.filter fun e => e.1 != p).map (·.1) = p :: (r.map (·.1)).filter (· != p)
  rw [List.filter_map]
  rfl
theorem apps_persons : ∀ (cs : List Nat) (r : Row), (apps r cs).map (·.1) = cs.foldl mv (r.map (·.1))
  | [], _ => rfl
  | p :: cs, r => by
    show (apps (app r p) cs).map (·.1) = cs.foldl mv (mv (r.map (·.1)) p)
    rw [apps_persons cs, app_persons]
theorem mvs_eq : ∀ (cs q : List Nat), cs.foldl mv q = cs.foldl mv [] ++ q.filter fun x => !decide (x ∈ cs)
  | [], q => by
    show q = [] ++ q.filter _
    rw [List.nil_append, List.filter_eq_self.mpr]
    intro x _
    simp
  | p :: cs, q => by
    show cs.foldl mv (mv q p) = cs.foldl mv (mv [] p) ++ _
    rw [mvs_eq cs (mv q p), mvs_eq cs (mv [] p), List.append_assoc]
    congr 1
    show ((p :: q.filter (· != p)).filter _) = ([p].filter _) ++ _
    rw [show p :: q.filter (· != p) = [p] ++ q.filter (· != p) from rfl, List.filter_append, List.filter_filter]
    congr 1
    apply List.filter_congr
    intro x _
    by_cases h : x = p <;> by_cases k : x ∈ cs <;> simp [h, k]
theorem mvs_mem : ∀ {cs : List Nat} {x : Nat}, x ∈ cs.foldl mv [] → x ∈ cs
  | [], x, h => h
  | p :: cs, x, h => by
    have h : x ∈ cs.foldl mv (mv [] p) := h
    rw [mvs_eq] at h
    rcases List.mem_append.mp h with z | z
    · exact List.mem_cons_of_mem _ (mvs_mem z)
    · have := (List.mem_filter.mp z).1
      rw [List.mem_singleton.mp this]
      exact List.mem_cons_self
theorem order_same (cs q : List Nat) : cs.foldl mv (cs.foldl mv q) = cs.foldl mv q := by
  have e := mvs_eq cs q
  rw [mvs_eq cs (cs.foldl mv q)]
  have : (cs.foldl mv q).filter (fun x => !decide (x ∈ cs)) = q.filter fun x => !decide (x ∈ cs) := by
    rw [e, List.filter_append, List.filter_filter]
    rw [List.filter_eq_nil_iff.mpr fun x hx => by
      have := mvs_mem hx
      simp [this], List.nil_append]
    apply List.filter_congr
    intro x _
    simp
  rw [this, ← e]
theorem row_of {r : Row} (nd : (r.map (·.1)).Nodup) : (r.map (·.1)).map (fun p => (p, colOf r p)) = r := by
  rw [List.map_map]
  have : ∀ e ∈ r, ((fun p => (p, colOf r p)) ∘ fun e : Nat × Nat => e.1) e = id e := fun e he => by
    show (e.1, colOf r e.1) = e
    rw [colOf_is nd he]
  rw [List.map_congr_left this, List.map_id]
theorem row_ext {r s : Row} (nr : (r.map (·.1)).Nodup) (h : s.map (·.1) = r.map (·.1)) (hc : ∀ p ∈ r.map (·.1), colOf s p = colOf r p) : s = r := by
  rw [← row_of nr, ← row_of (r := s) (by rw [h]; exact nr), h]
  exact List.map_congr_left fun p hp => by rw [hc p hp]
theorem apps_app (r : Row) (a b : List Nat) : apps r (a ++ b) = apps (apps r a) b := List.foldl_append ..
theorem col_out {q : Nat} : ∀ {ds : List Nat} {r : Row}, q ∉ ds → colOf (apps r ds) q = colOf r q
  | [], _, _ => rfl
  | p :: ds, r, h => by
    show colOf (apps (app r p) ds) q = _
    rw [col_out fun z => h (List.mem_cons_of_mem _ z), fp_app, if_neg fun z => h (by rw [z]; exact List.mem_cons_self)]
/-! ### the front's colors -/
structure Fro (cs : List Nat) (B r A : Row) : Prop where
  eq : r = A ++ B
  called : ∀ e ∈ A, e.1 ∈ cs
  others : ∀ e ∈ B, e.1 ∉ cs
  full : ∀ p ∈ cs, ∃ e ∈ A, e.1 = p
def Pr (a b : Nat) (A : Row) : Prop := ∀ e ∈ A, e.2 = a ∨ e.2 = b
theorem Fro.app {cs : List Nat} {B r A : Row} (h : Fro cs B r A) {p : Nat} (hp : p ∈ cs) : Fro cs B (app r p) ((p, (fo r (colOf r p)).getD (colOf r p)) :: A.filter fun e => e.1 != p) where
  eq := by
    show (p, (fo r (colOf r p)).getD (colOf r p)) :: r.filter (fun e => e.1 != p) = _
    rw [List.cons_append]
    congr 1
    rw [h.eq, List.filter_append]
    congr 1
    rw [List.filter_eq_self]
    intro e he
    simp only [bne_iff_ne]
    intro z
    exact h.others e he (by rw [z]; exact hp)
  called := fun e he => by
    rcases List.mem_cons.mp he with z | z
    · rw [z]; exact hp
    · exact h.called e (List.mem_filter.mp z).1
  others := h.others
  full := fun q hq => by
    by_cases z : q = p
    · exact ⟨_, List.mem_cons_self, z.symm⟩
    · obtain ⟨e, he, e1⟩ := h.full q hq
      exact ⟨e, List.mem_cons_of_mem _ (List.mem_filter.mpr ⟨he, by simp only [bne_iff_ne]; rw [e1]; exact z⟩), e1⟩
def oth (a b x : Nat) : Nat := if x = a then b else a
def flN (a b N x : Nat) : Nat := if N % 2 = 0 then x else oth a b x
theorem oth_oth {a b x : Nat} (ab : a ≠ b) (h : x = a ∨ x = b) : oth a b (oth a b x) = x := by
  unfold oth
  rcases h with z | z
  · rw [if_pos z, if_neg (show ¬ b = a from fun y => ab y.symm), z]
  · rw [if_neg (show ¬ x = a from fun y => ab (y.symm.trans z)), if_pos rfl, z]
theorem oth_in {a b x : Nat} : oth a b x = a ∨ oth a b x = b := by
  unfold oth
  split
  · exact Or.inr rfl
  · exact Or.inl rfl
theorem oth_ne {a b x : Nat} (ab : a ≠ b) (h : x = a ∨ x = b) : oth a b x ≠ x := by
  unfold oth
  rcases h with z | z
  · rw [if_pos z, z]; exact ab.symm
  · rw [if_neg (fun y => ab (y.symm.trans z)), z]; exact ab
theorem flN_add {a b x : Nat} (ab : a ≠ b) (h : x = a ∨ x = b) (n m : Nat) : flN a b (n + m) x = flN a b m (flN a b n x) := by
  unfold flN
  by_cases c : n % 2 = 0 <;> by_cases d : m % 2 = 0
  · rw [if_pos c, if_pos d, if_pos (by omega)]
  · rw [if_pos c, if_neg d, if_neg (by omega)]
  · rw [if_neg c, if_pos d, if_neg (by omega)]
  · rw [if_neg c, if_neg d, if_pos (by omega), oth_oth ab h]
theorem flN_in {a b x : Nat} (h : x = a ∨ x = b) (n : Nat) : flN a b n x = a ∨ flN a b n x = b := by
  unfold flN
  split
  · exact h
  · exact oth_in
/-- each call changes sides, in all parts of ds -/
def Flip (cs : List Nat) (B : Row) (a b : Nat) (r : Row) (ds : List Nat) : Prop := ∀ d1 d2, ds = d1 ++ d2 → (∃ A', Fro cs B (apps r d1) A' ∧ Pr a b A') ∧ ∀ q ∈ cs, colOf (apps r d1) q = flN a b (d1.count q) (colOf r q)
theorem Fro.col {cs : List Nat} {B r A : Row} (V : Vr r) (h : Fro cs B r A) {p : Nat} (hp : p ∈ cs) : ∃ e ∈ A, e.1 = p ∧ e.2 = colOf r p := by
  obtain ⟨e, he, rfl⟩ := h.full p hp
  exact ⟨e, he, rfl, (colOf_is V.nodup (by rw [h.eq]; exact List.mem_append_left _ he)).symm⟩
/-- calls change sides until all in front have one color and the next color is a new one -/
theorem steps {cs : List Nat} {B : Row} {a b : Nat} (ab : a ≠ b) : ∀ (ds : List Nat) (r A : Row), Vr r → (∀ c ∈ cs, c < r.length) → Fro cs B r A → Pr a b A → (∀ p ∈ ds, p ∈ cs) →
    Flip cs B a b r ds ∨ ∃ d1 p d2 y A', ds = d1 ++ p :: d2 ∧ Fro cs B (apps r d1) A' ∧ (∀ e ∈ A', e.2 = y) ∧ (y = a ∨ y = b) ∧ fo B y ≠ some (oth a b y)
  | [], r, A, V, _, F, P, _ => Or.inl fun d1 d2 e => by
    have : d1 = [] := (List.append_eq_nil_iff.mp e.symm).1
    subst this
    exact ⟨⟨A, F, P⟩, fun q _ => rfl⟩
  | p :: ds, r, A, V, hl, F, P, hd => by
    have hp := hd p List.mem_cons_self
    have pl := hl p hp
    obtain ⟨e, he, e1, e2⟩ := F.col V hp
    have hx := P e he
    rw [e2] at hx
    by_cases ok : fo r (colOf r p) = some (oth a b (colOf r p))
    · have F1 := F.app hp
      rw [ok] at F1
      have P1 : Pr a b ((p, (some (oth a b (colOf r p))).getD (colOf r p)) :: A.filter fun e => e.1 != p) := fun u hu => by
        rcases List.mem_cons.mp hu with z | z
        · rw [z]; exact oth_in
        · exact P u (List.mem_filter.mp z).1
      have c1 : ∀ q, colOf (app r p) q = if q = p then oth a b (colOf r p) else colOf r q := fun q => by rw [fp_app, ok]; rfl
      rcases steps ab ds (app r p) _ (V.app pl) (fun c hc => by rw [app_len V pl]; exact hl c hc) F1 P1 (fun q hq => hd q (List.mem_cons_of_mem _ hq)) with L | ⟨d1, p', d2, y, A', h1, h2, h3, h4, h5⟩
      · refine Or.inl fun d1 d2 e => ?_
        cases d1 with
        | nil => exact ⟨⟨A, F, P⟩, fun q _ => rfl⟩
        | cons p2 d1 =>
          injection e with e3 e4
          subst e3
          obtain ⟨k1, k2⟩ := L d1 d2 e4
          refine ⟨k1, fun q hq => ?_⟩
          show colOf (apps (app r p) d1) q = _
          rw [k2 q hq, c1 q, List.count_cons]
          by_cases z : q = p
          · subst z
            rw [if_pos rfl, beq_self_eq_true, if_pos rfl, Nat.add_comm, flN_add ab hx]
            rfl
          · rw [if_neg z, if_neg (by simpa using fun y => z y.symm)]
            rfl
      · exact Or.inr ⟨p :: d1, p', d2, y, A', by rw [h1]; rfl, h2, h3, h4, h5⟩
    · refine Or.inr ⟨[], p, ds, colOf r p, A, rfl, F, ?_⟩
      have two : fo r (colOf r p) = (fo A (colOf r p)).or (fo B (colOf r p)) := by
        have := fo_two A B (colOf r p)
        rw [← F.eq] at this
        exact this
      cases fa : fo A (colOf r p) with
      | some d =>
        exfalso
        obtain ⟨n1, u, hu, n2⟩ := fo_in fa
        have hd2 := P u hu
        rw [n2] at hd2
        have : d = oth a b (colOf r p) := by
          unfold oth
          rcases hx with z | z <;> rcases hd2 with w | w
          · exact absurd (w.trans z.symm) n1
          · rw [if_pos z]; exact w
          · rw [if_neg (by rw [z]; exact ab.symm)]; exact w
          · exact absurd (w.trans z.symm) n1
        rw [two, fa, this] at ok
        exact ok rfl
      | none =>
        rw [two, fa] at ok
        exact ⟨fo_all_is fa, hx, ok⟩
/-- all of one color: so it stays -/
theorem quiet_app {y : Nat} : ∀ {ds : List Nat} {r : Row}, Vr r → (∀ c ∈ ds, c < r.length) → (∀ e ∈ r, e.2 = y) → ∀ e ∈ apps r ds, e.2 = y
  | [], r, _, _, h => h
  | p :: ds, r, V, hl, h => by
    have pl := hl p List.mem_cons_self
    refine quiet_app (ds := ds) (V.app pl) (fun c hc => by rw [app_len V pl]; exact hl c (List.mem_cons_of_mem _ hc)) fun e he => ?_
    have hc : colOf r p = y := h _ (colOf_mem (V.has pl))
    have hn : fo r y = none := by
      cases q : fo r y with
      | none => rfl
      | some d =>
        obtain ⟨n1, u, hu, n2⟩ := fo_in q
        exact absurd (n2.symm.trans (h u hu)) n1
    rcases List.mem_cons.mp he with z | z
    · rw [z]
      show (fo r (colOf r p)).getD (colOf r p) = y
      rw [hc, hn]
      rfl
    · exact h e (List.mem_filter.mp z).1
def Xn (r : Row) (cs : List Nat) : Nat → Row
  | 0 => r
  | n + 1 => apps (Xn r cs n) cs
theorem Xn_ok {r : Row} (V : Vr r) {cs : List Nat} (h : ∀ c ∈ cs, c < r.length) : ∀ n, Vr (Xn r cs n) ∧ (Xn r cs n).length = r.length
  | 0 => ⟨V, rfl⟩
  | n + 1 => by
    obtain ⟨V1, l1⟩ := Xn_ok V h n
    have := apps_len V1 cs fun c hc => by rw [l1]; exact h c hc
    exact ⟨this.1, this.2.trans l1⟩
theorem Xn_two (r : Row) (cs : List Nat) (n : Nat) : Xn r cs (n + 2) = apps (Xn r cs n) (cs ++ cs) := by
  rw [apps_app]
  rfl
/-- behind some rounds: all have one color for good, or each call changes sides -/
def Ends (cs : List Nat) (R : Row) : Prop := (∃ y, ∀ e ∈ R, e.2 = y) ∨ ∃ a b, a ≠ b ∧ (∀ q ∈ cs, colOf R q = a ∨ colOf R q = b) ∧ ∀ d1 d2, cs ++ cs = d1 ++ d2 → ∀ q ∈ cs, colOf (apps R d1) q = flN a b (d1.count q) (colOf R q)
theorem Flip.ends {cs : List Nat} {B : Row} {a b : Nat} (ab : a ≠ b) {r0 : Row} {d0 : List Nat} (V : Vr r0) (hl : ∀ c ∈ cs, c < r0.length) (L : Flip cs B a b r0 (d0 ++ (cs ++ cs))) : Ends cs (apps r0 d0) := by
  refine Or.inr ⟨a, b, ab, fun q hq => ?_, fun d1 d2 e q hq => ?_⟩
  · obtain ⟨A, F, P⟩ := (L [] _ rfl).1
    obtain ⟨u, hu, _, u2⟩ := F.col (r := r0) V hq
    have := P u hu
    rw [u2] at this
    rw [(L d0 _ rfl).2 q hq]
    exact flN_in this _
  · obtain ⟨A, F, P⟩ := (L [] _ rfl).1
    obtain ⟨u, hu, _, u2⟩ := F.col (r := r0) V hq
    have hx := P u hu
    rw [u2] at hx
    rw [← apps_app, (L (d0 ++ d1) d2 (by rw [e, List.append_assoc])).2 q hq, (L d0 _ rfl).2 q hq, List.count_append, flN_add ab hx]
theorem rounds_end {r : Row} (V : Vr r) {cs : List Nat} (h : ∀ c ∈ cs, c < r.length) : ∃ m, 1 ≤ m ∧ m ≤ 5 ∧ Ends cs (Xn r cs m) := by
  obtain ⟨A, B, S⟩ := split_calls r cs
  obtain ⟨V1, l1⟩ := apps_len V cs h
  have h1 : ∀ c ∈ cs, c < (apps r cs).length := fun c hc => by rw [l1]; exact h c hc
  have F : Fro cs B (apps r cs) A := ⟨S.eq, S.called, S.others, fun p hp => by
    obtain ⟨e, he, e1⟩ := V1.has (h1 p hp)
    rw [S.eq] at he
    rcases List.mem_append.mp he with z | z
    · exact ⟨e, z, e1⟩
    · exact absurd (by rw [e1]; exact hp) (S.others e z)⟩
  have pair : ∃ a b, a ≠ b ∧ Pr a b A := by
    obtain ⟨x, y, xy⟩ := S.two
    by_cases z : x = y
    · exact ⟨x, x + 1, by omega, fun e he => by have := xy e he; rw [← z] at this; exact Or.inl (this.elim id id)⟩
    · exact ⟨x, y, z, xy⟩
  obtain ⟨a, b, ab, P⟩ := pair
  have cc : ∀ {d1 d2 : List Nat} {p : Nat}, cs ++ cs = d1 ++ p :: d2 → (∀ c ∈ d1, c ∈ cs) ∧ p ∈ cs ∧ ∀ c ∈ d2, c ∈ cs := fun {d1 d2 p} e => by
    have : ∀ c ∈ d1 ++ p :: d2, c ∈ cs := fun c hc => by
      rw [← e] at hc
      exact (List.mem_append.mp hc).elim id id
    exact ⟨fun c hc => this c (List.mem_append_left _ hc), this p (List.mem_append_right _ List.mem_cons_self), fun c hc => this c (List.mem_append_right _ (List.mem_cons_of_mem _ hc))⟩
  -- a front of one color, the color behind it
  have quietOf : ∀ {R A : Row} {y : Nat}, Fro cs B R A → (∀ e ∈ A, e.2 = y) → fo B y = none → ∀ e ∈ R, e.2 = y := fun {R A y} F hA hB e he => by
    rw [F.eq] at he
    rcases List.mem_append.mp he with z | z
    · exact hA e z
    · exact fo_all_is hB e z
  have pairOf : ∀ {R A : Row} {y z p : Nat}, Vr R → Fro cs B R A → (∀ e ∈ A, e.2 = y) → fo B y = some z → p ∈ cs → ∃ A', Fro cs B (app R p) A' ∧ Pr y z A' := fun {R A y z p} V F hA hB hp => by
    refine ⟨_, F.app hp, fun e he => ?_⟩
    rcases List.mem_cons.mp he with w | w
    · rw [w]
      obtain ⟨u, hu, _, u2⟩ := F.col V hp
      have hc : colOf R p = y := u2.symm.trans (hA u hu)
      have fa : fo A y = none := by
        cases q : fo A y with
        | none => rfl
        | some d =>
          obtain ⟨n1, u, hu, n2⟩ := fo_in q
          exact absurd (n2.symm.trans (hA u hu)) n1
      have : fo R y = some z := by
        have := fo_two A B y
        rw [← F.eq, fa, hB] at this
        exact this
      show (fo R (colOf R p)).getD (colOf R p) = y ∨ _
      rw [hc, this]
      exact Or.inr rfl
    · exact Or.inl (hA e (List.mem_filter.mp w).1)
  have e3 : Xn r cs 3 = apps (apps r cs) (cs ++ cs) := Xn_two r cs 1
  have e5 : Xn r cs 5 = apps (Xn r cs 3) (cs ++ cs) := Xn_two r cs 3
  rcases steps ab (cs ++ cs) _ A V1 h1 F P (fun c hc => (List.mem_append.mp hc).elim id id) with L | ⟨d1, p, d2, y, A1, s1, F1, m1, _, n1⟩
  · exact ⟨1, by omega, by omega, Flip.ends (d0 := []) ab V1 h1 L⟩
  obtain ⟨i1, ip, i2⟩ := cc s1
  obtain ⟨V2, l2⟩ := apps_len V1 d1 fun c hc => h1 c (i1 c hc)
  have h2 : ∀ c ∈ cs, c < (apps (apps r cs) d1).length := fun c hc => by rw [l2]; exact h1 c hc
  have x3 : Xn r cs 3 = apps (app (apps (apps r cs) d1) p) d2 := by rw [e3, s1, apps_app]; rfl
  cases hz : fo B y with
  | none =>
    refine ⟨3, by omega, by omega, Or.inl ⟨y, ?_⟩⟩
    rw [x3]
    exact quiet_app (ds := p :: d2) V2 (fun c hc => h2 c (by rcases List.mem_cons.mp hc with z | z; rw [z]; exact ip; exact i2 c z)) (quietOf F1 m1 hz)
  | some z =>
    have zy : z ≠ y := (fo_in hz).1
    obtain ⟨A2, F2, P2⟩ := pairOf V2 F1 m1 hz ip
    have V3 := V2.app (h2 p ip)
    have h3 : ∀ c ∈ cs, c < (app (apps (apps r cs) d1) p).length := fun c hc => by rw [app_len V2 (h2 p ip)]; exact h2 c hc
    rcases steps (a := y) (b := z) (Ne.symm zy) (d2 ++ (cs ++ cs)) _ A2 V3 h3 F2 P2 (fun c hc => by
      rcases List.mem_append.mp hc with w | w
      · exact i2 c w
      · exact (List.mem_append.mp w).elim id id) with L | ⟨d1', p', d2', y', A3, s2, F3, m3, o3, n3⟩
    · exact ⟨3, by omega, by omega, by rw [x3]; exact Flip.ends (Ne.symm zy) V3 h3 L⟩
    have y'z : y' = z := by
      rcases o3 with w | w
      · exfalso
        rw [w] at n3
        exact n3 (by rw [hz]; unfold oth; rw [if_pos rfl])
      · exact w
    subst y'z
    have n4 : fo B y' ≠ some y := by
      have : oth y y' y' = y := by unfold oth; rw [if_neg zy]
      rw [this] at n3
      exact n3
    have all2 : ∀ c ∈ d1' ++ p' :: d2', c ∈ cs := fun c hc => by
      rw [← s2] at hc
      rcases List.mem_append.mp hc with w | w
      · exact i2 c w
      · exact (List.mem_append.mp w).elim id id
    have j1 : ∀ c ∈ d1', c ∈ cs := fun c hc => all2 c (List.mem_append_left _ hc)
    have jp : p' ∈ cs := all2 p' (List.mem_append_right _ List.mem_cons_self)
    have j2 : ∀ c ∈ d2', c ∈ cs := fun c hc => all2 c (List.mem_append_right _ (List.mem_cons_of_mem _ hc))
    obtain ⟨V4, l4⟩ := apps_len V3 d1' fun c hc => h3 c (j1 c hc)
    have h4 : ∀ c ∈ cs, c < (apps (app (apps (apps r cs) d1) p) d1').length := fun c hc => by rw [l4]; exact h3 c hc
    have x5 : Xn r cs 5 = apps (app (apps (app (apps (apps r cs) d1) p) d1') p') d2' := by rw [e5, x3, ← apps_app, s2, apps_app]; rfl
    cases hw : fo B y' with
    | none =>
      refine ⟨5, by omega, by omega, Or.inl ⟨y', ?_⟩⟩
      rw [x5]
      exact quiet_app (ds := p' :: d2') V4 (fun c hc => h4 c (by rcases List.mem_cons.mp hc with z | z; rw [z]; exact jp; exact j2 c z)) (quietOf F3 m3 hw)
    | some w =>
      have wz : w ≠ y' := (fo_in hw).1
      have wy : w ≠ y := fun q => n4 (by rw [hw, q])
      have back : fo B w = some y' := by
        cases B with
        | nil => cases hw
        | cons e0 B' =>
          by_cases q : e0.2 = y'
          · unfold fo
            rw [List.find?_cons_of_pos (by simp only [bne_iff_ne]; rw [q]; exact wz.symm)]
            show some e0.2 = _
            rw [q]
          · exfalso
            unfold fo at hw hz
            rw [List.find?_cons_of_pos (by simp only [bne_iff_ne]; exact q)] at hw
            have e0w : e0.2 = w := Option.some.inj hw
            rw [List.find?_cons_of_pos (by simp only [bne_iff_ne]; rw [e0w]; exact wy)] at hz
            exact q (Option.some.inj hz)
      obtain ⟨A4, F4, P4⟩ := pairOf V4 F3 m3 hw jp
      have V5 := V4.app (h4 p' jp)
      have h5 : ∀ c ∈ cs, c < (app (apps (app (apps (apps r cs) d1) p) d1') p').length := fun c hc => by rw [app_len V4 (h4 p' jp)]; exact h4 c hc
      rcases steps (a := y') (b := w) (Ne.symm wz) (d2' ++ (cs ++ cs)) _ A4 V5 h5 F4 P4 (fun c hc => by
        rcases List.mem_append.mp hc with q | q
        · exact j2 c q
        · exact (List.mem_append.mp q).elim id id) with L | ⟨_, _, _, y'', _, _, _, _, o5, n5⟩
      · exact ⟨5, by omega, by omega, by rw [x5]; exact Flip.ends (Ne.symm wz) V5 h5 L⟩
      · exfalso
        rcases o5 with q | q
        · rw [q] at n5
          exact n5 (by rw [hw]; unfold oth; rw [if_pos rfl])
        · rw [q] at n5
          exact n5 (by rw [back]; unfold oth; rw [if_neg wz])
/-- behind some rounds two more change nothing -/
theorem Ends.two {r : Row} (V : Vr r) {cs : List Nat} (h : ∀ c ∈ cs, c < r.length) {m : Nat} (m1 : 1 ≤ m) (E : Ends cs (Xn r cs m)) : Xn r cs (m + 2) = Xn r cs m := by
  obtain ⟨V1, l1⟩ := Xn_ok V h m
  obtain ⟨V3, _⟩ := Xn_ok V h (m + 2)
  have ord : (Xn r cs (m + 2)).map (·.1) = (Xn r cs m).map (·.1) := by
    obtain ⟨n, rfl⟩ : ∃ n, m = n + 1 := ⟨m - 1, by omega⟩
    show (apps (apps (apps (Xn r cs n) cs) cs) cs).map (·.1) = (apps (Xn r cs n) cs).map (·.1)
    rw [apps_persons, apps_persons, apps_persons, order_same, order_same]
  refine row_ext V1.nodup ord fun p hp => ?_
  have hm : ∀ {R : Row}, Vr R → p ∈ R.map (·.1) → (p, colOf R p) ∈ R := fun {R} V hp => by
    obtain ⟨e, he, rfl⟩ := List.mem_map.mp hp
    exact colOf_mem ⟨e, he, rfl⟩
  rcases E with ⟨y, hy⟩ | ⟨a, b, ab, _, fl⟩
  · have q : ∀ e ∈ Xn r cs (m + 2), e.2 = y := by
      rw [Xn_two]
      exact quiet_app V1 (fun c hc => by rw [l1]; exact h c ((List.mem_append.mp hc).elim id id)) hy
    exact (q _ (hm V3 (by rw [ord]; exact hp))).trans (hy _ (hm V1 hp)).symm
  · rw [Xn_two]
    by_cases c : p ∈ cs
    · rw [fl (cs ++ cs) [] (by rw [List.append_nil]) p c, List.count_append]
      unfold flN
      rw [if_pos (by omega)]
    · exact col_out fun z => c ((List.mem_append.mp z).elim id id)
end LX

namespace LQF
open PySem L2 LX LQ
theorem sh_enc {r : Row} (V : Vr r) : Sh 13 2 (60 * 83) (eRows (enc r)) := by
  have e : eRows (enc r) = dR r := by
    show PyData.list _ = PyData.list _
    rw [List.map_map]
    rfl
  rw [e]
  exact sh_row V
theorem sh_txt {cs : List Nat} (h : ∀ c ∈ cs, c ≤ 122) : Sh 13 0 cs.length (.str (txt cs)) := ⟨by simp only [PyData.showable], by simp only [PyData.hasDict], by simp only [PyData.depth]; omega, by
  simp only [PyData.leavesShort]
  show cs.toArray.toList.all (fun c => decide (c < 16 ^ 8)) = true
  rw [List.toList_toArray, List.all_eq_true]
  intro c hc
  have := h c hc
  exact decide_eq_true (Nat.lt_of_le_of_lt this (by decide)), by simp only [PyData.weight]; show cs.toArray.size ≤ _; rw [List.size_toArray]; exact Nat.le_refl _⟩
theorem sh_nI {cs : List Nat} (h : ∀ c ∈ cs, c < 10 ^ 12) {n : Nat} (z : cs.length ≤ n) : Sh 13 1 (n * 41) (eL eI (nI cs)) := by
  have := Sh.list (B := 13) (n := 0) (m := 40) (xs := (nI cs).map eI) fun x hx => by
    obtain ⟨s, hs, rfl⟩ := List.mem_map.mp hx
    obtain ⟨c, hc, rfl⟩ := List.mem_map.mp hs
    exact Sh.int (by show Int.natAbs (c : Int) < _; rw [Int.natAbs_natCast]; exact h c hc)
  rw [List.length_map, List.length_map] at this
  exact this.mono (Nat.le_refl _) (Nat.mul_le_mul_right _ z)
theorem m_repr {d : PyData} {n m : Nat} (h : Sh 13 n m d) (hn : n ≤ 20) (hm : m ≤ 2 ^ 20) : reprF d = some d.shown := by
  unfold reprF
  rw [h.sh, h.nd, decide_eq_true (Nat.le_trans h.dp hn), decide_eq_true (h.fits hm)]
  rfl
/-- a row and numbers are shown -/
theorem m_kept {r : Row} {cs : List Nat} (V : Vr r) (h : ∀ c ∈ cs, c < 10 ^ 12) (z : cs.length ≤ 1000) : ∃ s, reprF (.list [eRows (enc r), eL eI (nI cs)]) = some s := by
  refine ⟨_, m_repr (n := 3) (m := 2 * (41000 + 1)) ?_ (by decide) (by decide)⟩
  have := Sh.list (B := 13) (n := 2) (m := 41000) (xs := [eRows (enc r), eL eI (nI cs)]) fun x hx => by
    rcases List.mem_cons.mp hx with e | hx
    · rw [e]; exact (sh_enc V).mono (by decide) (by decide)
    · rw [List.mem_singleton.mp hx]; exact (sh_nI h z).mono (by decide) (by decide)
  exact this
end LQF

namespace LQ
open PySem L2 LX
section
variable {α : Type} [DecidableEq α]
theorem any_eqv {n : Nat} {e : α → PyData} {ok : α → Prop} (h : EqE n e ok) {x : α} (hx : ok x) : ∀ {l : List α}, (∀ y ∈ l, ok y) → ((l.map e).any fun z => PyData.eqv z (e x)) = decide (x ∈ l)
  | [], _ => by simp
  | y :: l, hl => by
    rw [List.map_cons, List.any_cons, any_eqv h hx fun z hz => hl z (List.mem_cons_of_mem _ hz), h.eq y x (hl y List.mem_cons_self) hx]
    by_cases c : y = x
    · rw [decide_eq_true c, decide_eq_true (show x ∈ y :: l by rw [c]; exact List.mem_cons_self)]
      rfl
    · rw [decide_eq_false c, Bool.false_or, decide_eq_decide, List.mem_cons]
      exact ⟨Or.inr, fun z => z.resolve_left fun w => c w.symm⟩
theorem EqE.okD {n : Nat} {e : α → PyData} {ok : α → Prop} (h : EqE n e ok) (z : n ≤ 64) {x : α} (hx : ok x) : LQ.okD (e x) = true := by
  have h1 := h.sd x hx
  unfold LQ.okD
  rw [h1.shaped z, PyData.hasDict_of_canLay _ h1.lay]
  rfl
theorem EqE.inD {n : Nat} {e : α → PyData} {ok : α → Prop} (h : EqE n e ok) (z : n + 1 ≤ 64) {x : α} {l : List α} (hx : ok x) (hl : ∀ y ∈ l, ok y) : inDF (e x) (l.map e) = some (decide (x ∈ l)) := by
  unfold inDF
  rw [h.okD (by omega) hx, (EqE.list h).okD z hl, any_eqv h hx hl]
  rfl
theorem EqE.inY {n : Nat} {e : α → PyData} {ok : α → Prop} (h : EqE n e ok) (z : n + 1 ≤ 64) {x : α} {l : List α} (hx : ok x) (hl : ∀ y ∈ l, ok y) (m : x ∈ l) : inDF (e x) (l.map e) = some true := by rw [h.inD z hx hl, decide_eq_true m]
theorem EqE.inN {n : Nat} {e : α → PyData} {ok : α → Prop} (h : EqE n e ok) (z : n + 1 ≤ 64) {x : α} {l : List α} (hx : ok x) (hl : ∀ y ∈ l, ok y) (m : x ∉ l) : inDF (e x) (l.map e) = some false := by rw [h.inD z hx hl, decide_eq_false m]
theorem EqE.idxD {n : Nat} {e : α → PyData} {ok : α → Prop} (h : EqE n e ok) (z : n + 1 ≤ 64) {x : α} {l : List α} {j : Nat} (hx : ok x) (hl : ∀ y ∈ l, ok y) (hj : l[j]? = some x) (first : ∀ m, m < j → l[m]? ≠ some x) : idxDF (e x) (l.map e) = some (j : Int) := by
  unfold idxDF
  rw [h.okD (by omega) hx, (EqE.list h).okD z hl]
  have : (l.map e).findIdx? (fun z => PyData.eqv z (e x)) = some j := by
    obtain ⟨jl, hj'⟩ := List.getElem?_eq_some_iff.mp hj
    rw [List.findIdx?_eq_some_iff_getElem]
    refine ⟨by rw [List.length_map]; exact jl, ?_, fun m hm => ?_⟩
    · rw [List.getElem_map, h.eq _ _ (hl _ (List.getElem_mem _)) hx, hj', decide_eq_true rfl]
    · rw [List.getElem_map, h.eq _ _ (hl _ (List.getElem_mem _)) hx]
      have := first m hm
      rw [List.getElem?_eq_getElem (by omega)] at this
      simpa using this
  rw [this]
  rfl
end
theorem enc_inj {r s : Row} (h : enc r = enc s) : r = s := by
  induction r generalizing s with
  | nil => cases s with | nil => rfl | cons => cases h
  | cons e r ih =>
    cases s with
    | nil => cases h
    | cons f s =>
      have h : eRow e :: enc r = eRow f :: enc s := h
      injection h with h1 h2
      rw [ih h2]
      congr 1
      have a1 : (e.1 : Int) = (f.1 : Int) := congrArg Prod.fst h1
      have a2 : lt e.2 = lt f.2 := congrArg Prod.snd h1
      exact Prod.ext (by omega) (lt_inj.mp a2)
theorem sIx_last {n d : Nat} (h : 1 ≤ n) : HT.sIx n d (some (-1)) = n - 1 := by
  have := HT.clip_eq (-1) n d
  rw [if_pos (by decide)] at this
  omega
theorem cutL_init {α : Type} {l : List α} (h : l ≠ []) : cutL l none (some (-(1 : Int))) = l.dropLast := by
  have hl : 1 ≤ l.length := by cases l with | nil => exact absurd rfl h | cons => exact Nat.succ_le_succ (Nat.zero_le _)
  unfold cutL
  rw [HT.sIx_none, sIx_last hl, List.drop_zero, Nat.sub_zero, List.dropLast_eq_take]
theorem ix_last {α : Type} {l : List α} {x : α} : ix (l ++ [x]) (-(1 : Int)) = some x := by
  have e : ix (l ++ [x]) (-(1 : Int)) = (l ++ [x])[(l ++ [x]).length - 1]? := by
    have hl : 0 < (l ++ [x]).length := by rw [List.length_append]; exact Nat.succ_pos _
    unfold ix atI ixN
    rw [if_neg (by omega), if_pos (by omega)]
    show (l ++ [x])[(((l ++ [x]).length : Int) + -1).toNat]? = _
    congr 1
    omega
  rw [e]
  simp
theorem while_run {S : Type} {c : S → Option Bool} {b : S → Option S} {s : Nat → S} : ∀ (n k i : Nat), (∀ j, i ≤ j → j < i + n → c (s j) = some true ∧ b (s j) = some (s (j + 1))) → c (s (i + n)) = some false → whileF c b (n + 1 + k) (s i) = some (s (i + n))
  | 0, k, i, _, h => by
    rw [show 0 + 1 + k = k + 1 by omega]
    show (c (s i)).bind _ = _
    rw [show c (s i) = some false from h]
    rfl
  | n + 1, k, i, st, h => by
    rw [show n + 1 + 1 + k = (n + 1 + k) + 1 by omega]
    obtain ⟨h1, h2⟩ := st i (Nat.le_refl _) (by omega)
    show (c (s i)).bind _ = _
    rw [h1]
    show (b (s i)).bind _ = _
    rw [h2]
    have := while_run (c := c) (b := b) (s := s) n k (i + 1) (fun j h1 h2 => st j (by omega) (by omega)) (by rw [show i + 1 + n = i + (n + 1) by omega]; exact h)
    rw [show i + (n + 1) = i + 1 + n by omega]
    exact this
theorem while_fuel {S : Type} {c : S → Option Bool} {b : S → Option S} (s : Nat → S) {n : Nat} (z : n ≤ 1000) (st : ∀ j, j < n → c (s j) = some true ∧ b (s j) = some (s (j + 1))) (h : c (s n) = some false) : whileF c b fuelW (s 0) = some (s n) := by
  obtain ⟨k, hk⟩ : ∃ k, fuelW = n + 1 + k := ⟨fuelW - (n + 1), by have : fuelW = 100000 := rfl; omega⟩
  rw [hk]
  have := while_run (c := c) (b := b) (s := s) n k 0 (fun j _ h2 => st j (by omega)) (by rw [Nat.zero_add]; exact h)
  rw [Nat.zero_add] at this
  exact this
end LQ
namespace LX
open PySem L2
theorem least_of {P : Nat → Prop} : ∀ n, P n → ∃ k, k ≤ n ∧ P k ∧ ∀ j, j < k → ¬ P j := by
  intro n
  induction n using Nat.strongRecOn with
  | ind n ih =>
    intro h
    by_cases q : ∃ j, j < n ∧ P j
    · obtain ⟨j, jn, hj⟩ := q
      obtain ⟨k, k1, k2, k3⟩ := ih j jn hj
      exact ⟨k, by omega, k2, k3⟩
    · exact ⟨n, Nat.le_refl _, h, fun j jn hj => q ⟨j, jn, hj⟩⟩
/-- the first n that stands already, at f -/
structure Rep {α : Type} (X : Nat → α) (n f : Nat) : Prop where
  lt : f < n
  same : X f = X n
  dist : ∀ i j, i < j → j < n → X i ≠ X j
theorem rep_of {α : Type} (X : Nat → α) {m : Nat} (h : X (m + 2) = X m) : ∃ n f, n ≤ m + 2 ∧ Rep X n f := by
  obtain ⟨n, nm, ⟨f, fn, e⟩, first⟩ := least_of (P := fun n => ∃ f, f < n ∧ X f = X n) (m + 2) ⟨m, by omega, h.symm⟩
  exact ⟨n, f, nm, fn, e, fun i j ij jn z => first j jn ⟨i, ij, z⟩⟩
end LX
namespace LQF
open PySem L2 LX LQ
abbrev eR : List (Int × Str) → PyData := eL (eT2 eI eS)
theorem okXn {r : Row} (V : Vr r) {cs : List Nat} (h : ∀ c ∈ cs, c < r.length) (j : Nat) : ∀ x ∈ enc (Xn r cs j), True ∧ PyData.strOk x.2 = true := ok_enc (Xn_ok V h j).1.col
theorem mem_rows {X : Nat → Row} {n : Nat} {r : Row} : enc r ∈ (List.range n).map (fun i => enc (X i)) ↔ ∃ i, i < n ∧ X i = r := by
  rw [List.mem_map]
  constructor
  · rintro ⟨i, hi, e⟩
    exact ⟨i, List.mem_range.mp hi, enc_inj e⟩
  · rintro ⟨i, hi, e⟩
    exact ⟨i, List.mem_range.mpr hi, by rw [e]⟩
theorem rows_at {X : Nat → Row} {n i : Nat} (h : i < n) : ((List.range n).map fun i => enc (X i))[i]? = some (enc (X i)) := by
  rw [List.getElem?_map, List.getElem?_range h]
  rfl
theorem rows_snoc (X : Nat → Row) (n : Nat) : ((List.range (n + 1)).map fun i => enc (X i)) = ((List.range n).map fun i => enc (X i)) ++ [enc (X n)] := by
  rw [List.range_succ, List.map_append]
  rfl
theorem rows_ok {r : Row} (V : Vr r) {cs : List Nat} (h : ∀ c ∈ cs, c < r.length) (n : Nat) : ∀ y ∈ (List.range n).map (fun i => enc (Xn r cs i)), ∀ x ∈ y, True ∧ PyData.strOk x.2 = true := fun y hy => by
  obtain ⟨i, _, rfl⟩ := List.mem_map.mp hy
  exact okXn V h i
theorem m_lineups {r : Row} (V : Vr r) {cs : List Nat} (h : ∀ c ∈ cs, c < r.length) {n f : Nat} (R : Rep (Xn r cs) n f) (z : n ≤ 1000) :
    F_lineups_by_round (enc r) (nI cs) = some ((List.range n).map fun i => enc (Xn r cs i), (f : Int)) := by
  unfold F_lineups_by_round
  refine be (x := (enc (Xn r cs n), (List.range n).map fun i => enc (Xn r cs i))) (while_fuel (fun j => (enc (Xn r cs j), (List.range j).map fun i => enc (Xn r cs i))) z (fun j jn => ⟨?_, ?_⟩) ?_) ?_
  · exact be (eqRow.inN (by decide) (okXn V h j) (rows_ok V h j) fun q => by
      obtain ⟨i, ij, e⟩ := mem_rows.mp q
      exact R.dist i j ij jn e) rfl
  · refine be (appF_ok (by rw [List.length_map, List.length_range]; unfold LIM; omega)) ?_
    refine be (m_after (Xn_ok V h j).1 fun c hc => by rw [(Xn_ok V h j).2]; exact h c hc) ?_
    rw [rows_snoc]
    rfl
  · exact be (eqRow.inY (by decide) (okXn V h n) (rows_ok V h n) (mem_rows.mpr ⟨f, R.lt, R.same⟩)) rfl
  · refine be (eqRow.idxD (j := f) (by decide) (okXn V h n) (rows_ok V h n) (by rw [rows_at R.lt, R.same]) fun m hm => ?_) rfl
    rw [rows_at (Nat.lt_trans hm R.lt)]
    intro q
    have := enc_inj (Option.some.inj q)
    rw [← R.same] at this
    exact R.dist m f hm R.lt this
theorem ix_head {α : Type} {l : List α} {x : α} (h : l.head? = some x) : ix l (0 : Int) = some x := by
  cases l with
  | nil => cases h
  | cons y l => exact ix_int (by decide) (by rw [← h]; rfl)
theorem rep_ex {r : Row} (V : Vr r) {cs : List Nat} (h : ∀ c ∈ cs, c < r.length) : ∃ n f, n ≤ 7 ∧ Rep (Xn r cs) n f := by
  obtain ⟨m, m1, m5, E⟩ := rounds_end V h
  obtain ⟨n, f, z, R⟩ := rep_of (Xn r cs) (E.two V h m1)
  exact ⟨n, f, by omega, R⟩
theorem m_check_round {r : Row} (V : Vr r) {cs : List Nat} (h : ∀ c ∈ cs, c < r.length) (ne : cs ≠ []) : F_check_round (enc r) (nI cs) = some () := by
  unfold F_check_round
  refine be (m_check_lineup V) (be (m_check_calls h) ?_)
  cases cs with
  | nil => exact absurd rfl ne
  | cons => rfl
end LQF

namespace LQF
open PySem L2 LX LQ
theorem head_filt (r : Row) (q : Int × Str → Bool) : (((enc r).filter q).map fun a : Int × Str => a.2).head? = (r.find? (q ∘ eRow)).map fun e => lt e.2 := by
  rw [List.head?_map, List.head?_filter, List.find?_map, Option.map_map]
  rfl
theorem m_called {r : Row} (V : Vr r) {p : Nat} (hp : p < r.length) : F__law_called (enc r) (p : Int) = some (enc (app r p)) := by
  have n2 := V.n2
  have cc := V.colOf hp
  unfold F__law_called
  refine be (compL_filt (q := fun a : Int × Str => decide (a.1 = (p : Int))) (g := fun a : Int × Str => a.2) (by rw [enc_len]; unfold LIM; omega) fun x _ => by cases decide (x.1 = (p : Int)) <;> rfl) ?_
  refine be (x := lt (colOf r p)) (ix_head ?_) ?_
  · rw [head_filt]
    have e2 : (fun a : Int × Str => decide (a.1 = (p : Int))) ∘ eRow = fun e : Nat × Nat => e.1 == p := by
      funext e
      show decide ((e.1 : Int) = (p : Int)) = _
      rw [Bool.eq_iff_iff, decide_eq_true_iff, beq_iff_eq]
      omega
    rw [e2]
    unfold colOf
    cases hf : r.find? fun e => e.1 == p with
    | none =>
      obtain ⟨e, he, e1⟩ := V.has hp
      exact absurd (by rw [beq_iff_eq]; exact e1) (List.find?_eq_none.mp hf e he)
    | some e => rfl
  refine be (compL_filt (q := fun a : Int × Str => !decide (a.2 = lt (colOf r p))) (g := fun a : Int × Str => a.2) (by rw [enc_len]; unfold LIM; omega) fun x _ => by cases decide (x.2 = lt (colOf r p)) <;> rfl) ?_
  have hh : (((enc r).filter fun a : Int × Str => !decide (a.2 = lt (colOf r p))).map fun a : Int × Str => a.2).head? = (fo r (colOf r p)).map lt := by
    rw [head_filt]
    have e2 : (fun a : Int × Str => !decide (a.2 = lt (colOf r p))) ∘ eRow = fun e : Nat × Nat => e.2 != colOf r p := by
      funext e
      show (!decide (lt e.2 = lt (colOf r p))) = _
      rw [lt_dec]
      rfl
    rw [e2]
    unfold fo
    rw [Option.map_map]
    rfl
  have q := (EqE.list EqE.str).run (by decide) (x := ((enc r).filter fun a : Int × Str => !decide (a.2 = lt (colOf r p))).map fun a : Int × Str => a.2) (y := []) (fun x hx => by
    obtain ⟨a, ha, rfl⟩ := List.mem_map.mp hx
    obtain ⟨e, he, rfl⟩ := List.mem_map.mp (List.mem_filter.mp ha).1
    exact strOk_lt (V.col e he).2) (fun _ h => nomatch h)
  refine be (x := lt ((fo r (colOf r p)).getD (colOf r p))) (be q ?_) ?_
  · generalize ((enc r).filter fun a : Int × Str => !decide (a.2 = lt (colOf r p))).map (fun a : Int × Str => a.2) = l at hh
    cases l with
    | nil =>
      cases hfo : fo r (colOf r p) with
      | none => rfl
      | some d => rw [hfo] at hh; cases hh
    | cons y l =>
      cases hfo : fo r (colOf r p) with
      | none => rw [hfo] at hh; cases hh
      | some d =>
        rw [hfo] at hh
        exact be (x := lt d) (ix_head hh) rfl
  refine be (compL_filt (q := fun a : Int × Str => !decide (a.1 = (p : Int))) (g := fun a : Int × Str => a) (by rw [enc_len]; unfold LIM; omega) fun x _ => by cases decide (x.1 = (p : Int)) <;> rfl) ?_
  rw [List.map_id']
  have e3 : (enc r).filter (fun a : Int × Str => !decide (a.1 = (p : Int))) = enc (r.filter fun e => e.1 != p) := by
    show List.filter _ (r.map eRow) = _
    rw [List.filter_map]
    congr 1
    apply List.filter_congr
    intro e _
    show (!decide ((e.1 : Int) = (p : Int))) = _
    rw [Bool.eq_iff_iff]
    simp
    omega
  rw [e3]
  refine be (catF_ok (by
    have := List.length_filter_le (fun e : Nat × Nat => e.1 != p) r
    rw [enc_len]
    show 1 + _ ≤ LIM
    unfold LIM
    omega)) ?_
  rfl
theorem m_applied {r : Row} (V : Vr r) {cs : List Nat} (h : ∀ c ∈ cs, c < r.length) (z : cs.length ≤ 1000) : Ev (F__law_applied (enc r) (nI cs)) fun l => ix l (-(1 : Int)) = some (enc (apps r cs)) := by
  unfold F__law_applied
  refine ev_b (P := fun l => ix l (-(1 : Int)) = some (enc (apps r cs))) ?_ fun l hl => ev_s hl
  refine ev_loop (fun i s => ∃ l, s = l ++ [enc (apps r (cs.take i))] ∧ l.length = i) ⟨[], rfl, rfl⟩ (fun i x s hi ⟨l, e, el⟩ => ?_) fun s ⟨l, e, _⟩ => ?_
  · obtain ⟨c, hc, rfl⟩ : ∃ c, cs[i]? = some c ∧ x = (c : Int) := by
      rw [List.getElem?_map] at hi
      obtain ⟨c, hc, e⟩ := Option.map_eq_some_iff.mp hi
      exact ⟨c, hc, e.symm⟩
    have il := (List.getElem?_eq_some_iff.mp hc).1
    obtain ⟨V1, l1⟩ := apps_len V (cs.take i) fun p hp => h p (List.mem_of_mem_take hp)
    rw [e]
    refine ev_be ix_last ?_
    refine ev_be (m_called V1 (by rw [l1]; exact h c (List.mem_of_getElem? hc))) ?_
    refine ev_be (appF_ok (by rw [List.length_append, el]; show i + 1 < LIM; unfold LIM; omega)) ?_
    refine ev_s ⟨l ++ [enc (apps r (cs.take i))], ?_, by rw [List.length_append, el]; rfl⟩
    rw [take_of hc, apps_snoc]
  · rw [e, ix_last, List.take_of_length_le (by rw [List.length_map]; exact Nat.le_refl _)]
theorem m_law_rounds {r : Row} (V : Vr r) {cs : List Nat} (h : ∀ c ∈ cs, c < r.length) (zc : cs.length ≤ 1000) {n f : Nat} (R : Rep (Xn r cs) n f) (z : n ≤ 1000) :
    F__law_rounds (enc r) (nI cs) = some ((List.range n).map fun i => enc (Xn r cs i), (f : Int)) := by
  have dl : ∀ j, ((List.range (j + 1)).map fun i => enc (Xn r cs i)).dropLast = (List.range j).map fun i => enc (Xn r cs i) := fun j => by rw [rows_snoc, List.dropLast_concat]
  have la : ∀ j, ix ((List.range (j + 1)).map fun i => enc (Xn r cs i)) (-(1 : Int)) = some (enc (Xn r cs j)) := fun j => by rw [rows_snoc]; exact ix_last
  have ne : ∀ j, ((List.range (j + 1)).map fun i => enc (Xn r cs i)) ≠ [] := fun j => by rw [rows_snoc]; simp
  unfold F__law_rounds
  refine be (x := (List.range (n + 1)).map fun i => enc (Xn r cs i)) (while_fuel (fun j => (List.range (j + 1)).map fun i => enc (Xn r cs i)) z (fun j jn => ⟨?_, ?_⟩) ?_) ?_
  · refine be (la j) ?_
    rw [cutL_init (ne j), dl]
    exact be (eqRow.inN (by decide) (okXn V h j) (rows_ok V h j) fun q => by
      obtain ⟨i, ij, e⟩ := mem_rows.mp q
      exact R.dist i j ij jn e) rfl
  · refine be (la j) ?_
    obtain ⟨l, el, hl⟩ := m_applied (Xn_ok V h j).1 (cs := cs) (fun c hc => by rw [(Xn_ok V h j).2]; exact h c hc) zc
    refine be el (be hl (be (appF_ok (by rw [List.length_map, List.length_range]; unfold LIM; omega)) ?_))
    show some _ = some _
    rw [rows_snoc (Xn r cs) (j + 1)]
    rfl
  · refine be (la n) ?_
    rw [cutL_init (ne n), dl]
    exact be (eqRow.inY (by decide) (okXn V h n) (rows_ok V h n) (mem_rows.mpr ⟨f, R.lt, R.same⟩)) rfl
  · refine be (la n) ?_
    refine be (eqRow.idxD (j := f) (by decide) (okXn V h n) (rows_ok V h (n + 1)) (by rw [rows_at (Nat.lt_succ_of_lt R.lt), R.same]) fun m hm => ?_) ?_
    · rw [rows_at (by have := R.lt; omega)]
      intro q
      have := enc_inj (Option.some.inj q)
      rw [← R.same] at this
      exact R.dist m f hm R.lt this
    · rw [cutL_init (ne n), dl]
end LQF

namespace LQF
open PySem L2 LX LQ
theorem up_len : ∀ (cs : List Nat) (a b : Nat), cs.Pairwise (· < ·) → (∀ c ∈ cs, a ≤ c ∧ c < b) → cs.length ≤ b - a
  | [], a, b, _, _ => Nat.zero_le _
  | c :: cs, a, b, h, k => by
    have h' := List.pairwise_cons.mp h
    have := up_len cs (c + 1) b h'.2 fun d hd => ⟨h'.1 d hd, (k d (List.mem_cons_of_mem _ hd)).2⟩
    have := k c List.mem_cons_self
    rw [List.length_cons]
    omega
theorem txt_chars (cs : List Nat) : chars (txt cs) = cs.map lt := by
  show (cs.toArray.toList).map _ = _
  rw [List.toList_toArray]
  rfl
theorem leS_lt {a b : Nat} (h : a ≤ b) : leS (lt a) (lt b) = true := by
  show decide ([a] ≤ [b]) = true
  rw [decide_eq_true_iff, ← List.not_lt, List.cons_lt_cons_iff]
  rintro (h1 | ⟨_, h1⟩)
  · omega
  · exact absurd h1 (List.not_lt_nil _)
theorem lt_nodup {cs : List Nat} (h : cs.Nodup) : (cs.map lt).Nodup := by
  rw [List.nodup_iff_pairwise_ne, List.pairwise_map]
  exact h.imp fun h z => h (lt_inj.mp z)
theorem mem_lt {cs : List Nat} {c : Nat} : lt c ∈ cs.map lt ↔ c ∈ cs := by
  constructor
  · intro h
    obtain ⟨d, hd, e⟩ := List.mem_map.mp h
    rw [← lt_inj.mp e]
    exact hd
  · exact List.mem_map_of_mem (f := lt)
theorem sortU_lt {cs ds : List Nat} (up : cs.Pairwise (· < ·)) (h : ∀ c, c ∈ cs ↔ c ∈ ds) : sortU (ds.map lt) = cs.map lt := by
  refine (sortU_is ?_ (lt_nodup (up.imp fun h => Nat.ne_of_lt h)) fun k => ?_).symm
  · rw [List.pairwise_map]
    exact up.imp fun h => leS_lt (Nat.le_of_lt h)
  · constructor
    · intro hk
      obtain ⟨c, hc, rfl⟩ := List.mem_map.mp hk
      exact mem_lt.mpr ((h c).mp hc)
    · intro hk
      obtain ⟨c, hc, rfl⟩ := List.mem_map.mp hk
      exact mem_lt.mpr ((h c).mpr hc)
/-- any letters, sorted and each once -/
theorem sorted_of (ds : List Nat) (hc : ∀ c ∈ ds, 97 ≤ c ∧ c ≤ 122) : ∃ cs : List Nat, cs.Pairwise (· < ·) ∧ (∀ c, c ∈ cs ↔ c ∈ ds) := by
  refine ⟨(List.range 123).filter fun c => decide (c ∈ ds), List.Pairwise.filter _ List.pairwise_lt_range, fun c => ?_⟩
  rw [List.mem_filter, List.mem_range, decide_eq_true_iff]
  exact ⟨fun h => h.2, fun h => ⟨by have := hc c h; omega, h⟩⟩
theorem sortS_lt {cs ds : List Nat} (up : cs.Pairwise (· < ·)) (nd : ds.Nodup) (h : ∀ c, c ∈ cs ↔ c ∈ ds) : sortS (ds.map lt) = cs.map lt := by
  have pm : cs.Perm ds := (List.perm_ext_iff_of_nodup (up.imp fun h => Nat.ne_of_lt h) nd).mpr h
  refine List.Perm.eq_of_pairwise (le := fun a b => leS a b = true) (fun a b _ _ x y => leS_anti x y) (List.pairwise_mergeSort leS_trans leS_total _) ?_ ((List.mergeSort_perm _ _).trans (pm.map lt).symm)
  rw [List.pairwise_map]
  exact up.imp fun h => leS_lt (Nat.le_of_lt h)
theorem in_txt (a : Nat) (cs : List Nat) : inSF (lt a) (txt cs) = some (decide (a ∈ cs)) := by
  show some (decide (a ∈ cs.toArray.toList)) = _
  rw [List.toList_toArray]
end LQF

namespace LQF
open PySem L2 LX LQ
theorem erase_mp {α β : Type} (f : α → β) : ∀ (l : List α) (j : Nat), (l.map f).eraseIdx j = (l.eraseIdx j).map f
  | [], _ => rfl
  | x :: l, 0 => rfl
  | x :: l, j + 1 => by
    show f x :: (l.map f).eraseIdx j = f x :: (l.eraseIdx j).map f
    rw [erase_mp f l j]
theorem erase_pm {α : Type} : ∀ (l : List α) (j : Nat) (h : j < l.length), (l[j] :: l.eraseIdx j).Perm l
  | [], _, h => nomatch h
  | x :: l, 0, _ => List.Perm.refl _
  | x :: l, j + 1, h => (List.Perm.swap _ _ _).trans ((erase_pm l j (Nat.lt_of_succ_lt_succ h)).cons x)
theorem m_shuf {α : Type} : ∀ (is : List Int) {k : Nat} {l : List α} {bg : List Int}, is.length = l.length → Bg k bg → l.length ≤ 1000 → k + l.length < 2 ^ 63 →
    Ev (compS (fun (_ : Int) (s : (List α) × (List Int)) => (F__law_draw s.2 (lenI s.1)).bind fun y => (popAtF s.1 y.1).bind fun z => some (some z.1, (z.2, y.2))) is (l, bg)) fun r => r.1.Perm l ∧ Bg (k + l.length) r.2.2
  | [], k, l, bg, hl, B, _, _ => by
    have : l = [] := List.eq_nil_of_length_eq_zero hl.symm
    subst this
    exact ⟨_, rfl, List.Perm.refl _, B⟩
  | i :: is, k, l, bg, hl, B, z, hk => by
    have hp : 0 < l.length := by rw [← hl]; exact Nat.succ_pos _
    have ll : lenI l = (l.length : Int) := rfl
    show Ev (Option.bind (Option.bind (F__law_draw bg (lenI l)) _) _) _
    obtain ⟨y, ey, a0, a1, B1⟩ := m_draw (n := lenI l) B (by omega) (by omega) (by omega)
    rw [ey]
    obtain ⟨j, hj⟩ : ∃ j : Nat, y.1 = (j : Int) := ⟨y.1.toNat, by omega⟩
    have jl : j < l.length := by omega
    show Ev (Option.bind (Option.bind (popAtF l y.1) _) _) _
    rw [hj, popAt_nat (List.getElem?_eq_getElem jl) (by unfold LIM; omega)]
    have hl2 : is.length + 1 = l.length := hl
    have el : (l.eraseIdx j).length = l.length - 1 := List.length_eraseIdx_of_lt jl
    have il : is.length = (l.eraseIdx j).length := by rw [el, ← hl]; rfl
    obtain ⟨r, er, pr, Br⟩ := m_shuf is (k := k + 1) (l := l.eraseIdx j) (bg := y.2) il B1 (by omega) (by omega)
    show Ev (Option.bind (compS _ is (l.eraseIdx j, y.2)) _) _
    rw [er]
    exact ⟨_, rfl, (pr.cons _).trans (erase_pm l j jl), Br.up (by rw [el]; omega)⟩
end LQF

namespace LQF
open PySem L2 LX LQ
/-- a comprehension that draws -/
theorem ev_compS {α β S : Type} {f : α → S → Option (Option β × S)} {P : β → Prop} : ∀ {l : List α} {s : S} (I : Nat → S → Prop), I 0 s →
    (∀ i x s, l[i]? = some x → I i s → Ev (f x s) fun q => (∃ y, q.1 = some y ∧ P y) ∧ I (i + 1) q.2) → Ev (compS f l s) fun q => (∀ y ∈ q.1, P y) ∧ q.1.length = l.length ∧ I l.length q.2
  | [], s, I, h0, _ => ⟨([], s), rfl, (fun y hy => by cases hy), rfl, h0⟩
  | x :: l, s, I, h0, st => by
    obtain ⟨q, e, ⟨y, ey, py⟩, h1⟩ := st 0 x s rfl h0
    obtain ⟨r, er, p1, p2, p3⟩ := ev_compS (l := l) (s := q.2) (fun i s => I (i + 1) s) h1 fun i z s hz hi => st (i + 1) z s hz hi
    show Ev ((f x s).bind _) _
    rw [e]
    show Ev ((compS f l q.2).bind _) _
    rw [er]
    refine ⟨_, rfl, ?_, ?_, p3⟩
    · intro z hz
      rw [ey] at hz
      rcases List.mem_cons.mp hz with e | e
      · rw [e]; exact py
      · exact p1 z e
    · rw [ey]
      show (y :: r.1).length = _
      rw [List.length_cons, p2, List.length_cons]
theorem ev_compLS {α β S : Type} {f : α → S → Option (Option β × S)} {P : β → Prop} {l : List α} {s : S} (z : l.length ≤ LIM) (I : Nat → S → Prop) (h0 : I 0 s)
    (st : ∀ i x s, l[i]? = some x → I i s → Ev (f x s) fun q => (∃ y, q.1 = some y ∧ P y) ∧ I (i + 1) q.2) : Ev (compLS f l s) fun q => (∀ y ∈ q.1, P y) ∧ q.1.length = l.length ∧ I l.length q.2 := by
  unfold compLS
  rw [decide_eq_true z]
  exact ev_compS I h0 st
end LQF

namespace LQF
open PySem L2 LX LQ
def frontC (r : Row) : Nat := (r.headD (0, 0)).2
def oneP (r : Row) : Bool := (fo r (frontC r)).isNone
theorem ix_frontC {r : Row} (V : Vr r) : ix (enc r) 0 = some (((r.headD (0, 0)).1 : Int), lt (frontC r)) := by
  cases r with
  | nil => exact absurd V.n1 (by decide)
  | cons e r => exact ix_int (by decide) rfl
theorem oneP_iff {r : Row} : oneP r = true ↔ ∀ e ∈ r, e.2 = frontC r := by
  unfold oneP
  constructor
  · intro h
    cases q : fo r (frontC r) with
    | none => exact fo_all_is q
    | some d => rw [q] at h; cases h
  · intro h
    cases q : fo r (frontC r) with
    | none => rfl
    | some d =>
      obtain ⟨n1, e, he, n2⟩ := fo_in q
      exact absurd (n2.symm.trans (h e he)) n1
theorem ks_len {r : Row} (V : Vr r) {ks : List Nat} (up : ks.Pairwise (· < ·)) (mem : ∀ c, c ∈ ks ↔ c ∈ r.map (·.2)) : decide (((ks.length : Nat) : Int) = 1) = oneP r := by
  have n1 := V.n1
  have fm : frontC r ∈ r.map (·.2) := by
    cases r with
    | nil => exact absurd n1 (by decide)
    | cons e r => exact List.mem_cons_self
  rw [Bool.eq_iff_iff, decide_eq_true_iff, oneP_iff]
  constructor
  · intro h e he
    obtain ⟨c, hc⟩ : ∃ c, ks = [c] := by
      match ks, h with
      | [c], _ => exact ⟨c, rfl⟩
      | [], h => simp at h
      | _ :: _ :: _, h => simp at h; omega
    have h1 := (mem e.2).mpr (List.mem_map_of_mem (f := (·.2)) he)
    have h2 := (mem _).mpr fm
    rw [hc] at h1 h2
    rw [List.mem_singleton.mp h1, List.mem_singleton.mp h2]
  · intro h
    match ks, up, mem with
    | [], _, mem => exact absurd ((mem _).mpr fm) (by simp)
    | [c], _, _ => rfl
    | c :: d :: l, up, mem =>
      exfalso
      have cd := (List.pairwise_cons.mp up).1 d List.mem_cons_self
      obtain ⟨e, he, e1⟩ := List.mem_map.mp ((mem c).mp List.mem_cons_self)
      obtain ⟨f, hf, f1⟩ := List.mem_map.mp ((mem d).mp (List.mem_cons_of_mem _ List.mem_cons_self))
      have := (h e he).trans (h f hf).symm
      omega
theorem cols_ok {r : Row} (V : Vr r) : ∀ c ∈ r.map (·.2), 97 ≤ c ∧ c ≤ 122 := fun c hc => by
  obtain ⟨e, he, rfl⟩ := List.mem_map.mp hc
  exact V.col e he
theorem ks_26 {r : Row} (V : Vr r) {ks : List Nat} (up : ks.Pairwise (· < ·)) (mem : ∀ c, c ∈ ks ↔ c ∈ r.map (·.2)) : ks.length ≤ 26 := up_len ks 97 123 up fun c hc => by
  have := cols_ok V c ((mem c).mp hc)
  omega
theorem m_law_colors {r : Row} (V : Vr r) {ks : List Nat} (up : ks.Pairwise (· < ·)) (mem : ∀ c, c ∈ ks ↔ c ∈ r.map (·.2)) : F__law_colors (enc r) (nI (List.range r.length)) = some (txt ks) := by
  have n2 := V.n2
  have k26 := ks_26 V up mem
  unfold F__law_colors
  refine be (compL_map (g := fun a : Int => (a, true)) (by rw [List.length_map, List.length_range]; unfold LIM; omega) fun _ _ => rfl) ?_
  have nd : (((nI (List.range r.length)).map fun a : Int => (a, true)).map (·.1)).Nodup := by
    rw [List.map_map]
    have : (fun a : Int × Bool => a.1) ∘ (fun a : Int => (a, true)) = id := rfl
    rw [this, List.map_id, nI, List.nodup_iff_pairwise_ne, List.pairwise_map]
    exact (List.nodup_iff_pairwise_ne.mp List.nodup_range).imp fun h z => h (by omega)
  refine be (compL_map (g := fun a : Int × Str => a.2) (by rw [enc_len]; unfold LIM; omega) fun x hx => ?_) ?_
  · obtain ⟨e, he, rfl⟩ := List.mem_map.mp hx
    have : dhas (dmerge [] ((nI (List.range r.length)).map fun a : Int => (a, true))) (e.1 : Int) = true := by
      unfold dhas
      rw [dget_merge (p := ((e.1 : Int), true)) _ _ nd (List.mem_map_of_mem (f := fun a : Int => (a, true)) (List.mem_map_of_mem (f := fun n : Nat => (n : Int)) (List.mem_range.mpr (V.lt he))))]
      rfl
    show cond (dhas _ (e.1 : Int)) _ _ = _
    rw [this]
    rfl
  have e2 : (enc r).map (fun a : Int × Str => a.2) = (r.map (·.2)).map lt := by
    show List.map _ (List.map _ r) = List.map _ (List.map _ r)
    rw [List.map_map, List.map_map]
    rfl
  rw [e2]
  refine be (x := (r.map (·.2)).map lt) (by
    unfold setSF
    rw [decide_eq_true (by rw [List.length_map, List.length_map]; omega)]
    rfl) ?_
  rw [sortU_lt up mem]
  exact be (join_txt (by omega)) rfl
theorem dd_snoc' {α : Type} [DecidableEq α] (l : List α) (x : α) : dd (l ++ [x]) = if x ∈ dd l then dd l else dd l ++ [x] := dd_snoc l x
theorem m_in_order {r : Row} (V : Vr r) : F_colors_in_order (enc r) = some (txt (dd (r.map (·.2)))) := by
  have n2 := V.n2
  unfold F_colors_in_order
  refine be (m_check_lineup V) ?_
  refine be (x := txt (dd (r.map (·.2)))) ?_ rfl
  obtain ⟨s, es, hs⟩ := ev_loop (f := fun (a2005 : (Int × Str)) (s2006 : Str) => (inSF a2005.2 s2006).bind fun b2033 =>
cond (!b2033) ((catS s2006 a2005.2).bind fun y2035 =>
some y2035) (some s2006)) (l := enc r) (s := Str.ofString "") (P := fun s => s = txt (dd (r.map (·.2)))) (fun i s => s = txt (dd ((r.take i).map (·.2)))) rfl (fun i x s hi hs => by
    rw [List.getElem?_map] at hi
    obtain ⟨e, he, rfl⟩ := Option.map_eq_some_iff.mp hi
    rw [hs]
    have tk : (r.take (i + 1)).map (·.2) = (r.take i).map (·.2) ++ [e.2] := by rw [take_of he, List.map_append]; rfl
    rw [tk, dd_snoc']
    have dl := dd_le ((r.take i).map (·.2))
    rw [List.length_map, List.length_take] at dl
    refine ev_be (in_txt e.2 _) ?_
    by_cases c : e.2 ∈ dd ((r.take i).map (·.2))
    · rw [decide_eq_true c, if_pos c]
      exact ev_s rfl
    · rw [decide_eq_false c, if_neg c]
      exact ev_be (cat_txt (by omega)) (ev_s rfl)) (fun s hs => by
    rw [hs, enc_len, List.take_length])
  rw [es, hs]
theorem m_is_order {r : Row} (V : Vr r) {os : List Nat} (pm : os.Perm (List.range r.length)) : F_check_order (enc r) (nI os) = some () := by
  have n2 := V.n2
  have ol := pm.length_eq
  rw [List.length_range] at ol
  have lt' : ∀ p ∈ os, p < r.length := fun p hp => List.mem_range.mp (pm.mem_iff.mp hp)
  unfold F_check_order F_is_order
  refine be (x := true) (be (x := false) ?_ ?_) rfl
  · rw [decide_eq_true rfl]
    show Option.bind (compL _ _) _ = _
    refine be (compL_map (g := fun _ => true) (by rw [List.length_map]; unfold LIM; omega) fun x hx => by
      obtain ⟨p, hp, rfl⟩ := List.mem_map.mp hx
      rw [m_is_person (lt' p hp)]
      rfl) ?_
    have : ((nI os).map fun _ => true).all id = true := by
      rw [List.all_eq_true]
      intro x hx
      obtain ⟨_, _, rfl⟩ := List.mem_map.mp hx
      rfl
    rw [this]
    rfl
  · rw [cond_false, lenI_enc]
    refine be (lrgF_ok (by decide) (by decide) (by omega) (by omega) (by unfold LIM; omega)) ?_
    rw [rgI_nat, sort_nI (pm.map _)]
    have q := (EqE.list EqE.int).run (by decide) (x := nI (List.range r.length)) (y := nI (List.range r.length)) (fun _ _ => trivial) (fun _ _ => trivial)
    rw [decide_eq_true rfl] at q
    exact be q rfl
theorem m_left {r : Row} (V : Vr r) {os : List Nat} (pm : os.Perm (List.range r.length)) {ks : List Nat} (up : ks.Pairwise (· < ·)) (mem : ∀ c, c ∈ ks ↔ c ∈ (apps r os).map (·.2)) : F_colors_left_by (enc r) (nI os) = some (txt ks) := by
  have lt' : ∀ p ∈ os, p < r.length := fun p hp => List.mem_range.mp (pm.mem_iff.mp hp)
  obtain ⟨V1, _⟩ := apps_len V os lt'
  have k26 := ks_26 V1 up mem
  have n2 := V1.n2
  unfold F_colors_left_by
  refine be (m_check_lineup V) (be (m_is_order V pm) (be (m_after V lt') (be (m_in_order V1) ?_)))
  have dl := dd_le ((apps r os).map (·.2))
  rw [List.length_map] at dl
  refine be (x := (dd ((apps r os).map (·.2))).map lt) (by
    unfold charsF
    rw [decide_eq_true (show (txt (dd ((apps r os).map (·.2)))).cps.size ≤ 4000 from Nat.le_trans (Nat.le_of_eq (LX.txt_len _)) (by omega)), txt_chars]
    rfl) ?_
  rw [sortS_lt up (dd_nodup _) fun c => (mem c).trans mem_dd.symm]
  exact be (join_txt (by omega)) rfl
theorem loop_find {α R : Type} {f : α → Unit → Option (Ctl R Unit)} {P : α → Bool} {g : α → R} : ∀ {l : List α}, (∀ x ∈ l, f x () = some (if P x = true then .ret (g x) else .nx ())) → loopC f l () = some (match l.find? P with | some x => .ret (g x) | none => .nx ())
  | [], _ => rfl
  | x :: l, h => by
    show (f x ()).bind _ = _
    rw [h x List.mem_cons_self]
    by_cases c : P x = true
    · rw [if_pos c, List.find?_cons_of_pos c]
      rfl
    · rw [if_neg c, List.find?_cons_of_neg c]
      exact loop_find fun y hy => h y (List.mem_cons_of_mem _ hy)
theorem enum_rows (X : Nat → Row) (n : Nat) : enumI ((List.range n).map fun i => enc (X i)) = (List.range n).map fun i : Nat => ((i : Int), enc (X i)) := by
  apply List.ext_getElem?
  intro i
  cases h : (enumI ((List.range n).map fun i => enc (X i)))[i]? with
  | none =>
    rw [List.getElem?_eq_none_iff, enum_len, List.length_map, List.length_range] at h
    rw [List.getElem?_eq_none (by rw [List.length_map, List.length_range]; exact h)]
  | some p =>
    obtain ⟨h1, h2⟩ := enum_at h
    rw [List.getElem?_map] at h2 ⊢
    obtain ⟨j, hj, e⟩ := Option.map_eq_some_iff.mp h2
    rw [hj]
    have hi := (List.getElem?_eq_some_iff.mp hj).2
    rw [List.getElem_range] at hi
    subst hi
    show some p = some ((i : Int), enc (X i))
    congr 1
    exact Prod.ext h1 e.symm
def firstOne (X : Nat → Row) (n : Nat) : Option Int := ((List.range n).find? fun i => oneP (X i)).map fun i : Nat => (i : Int)
theorem m_until {r : Row} (V : Vr r) {cs : List Nat} (h : ∀ c ∈ cs, c < r.length) (ne : cs ≠ []) {n f : Nat} (R : Rep (Xn r cs) n f) (z : n ≤ 7) : F_rounds_until_one_color (enc r) (nI cs) = some (firstOne (Xn r cs) n) := by
  unfold F_rounds_until_one_color
  refine be (m_check_round V h ne) (be (m_lineups V h R (by omega)) ?_)
  show Option.bind (loopC _ (enumI ((List.range n).map fun i => enc (Xn r cs i))) ()) _ = _
  rw [enum_rows]
  refine be (loop_find (P := fun a : Int × List (Int × Str) => oneP (Xn r cs a.1.toNat)) (g := fun a => some a.1) fun x hx => ?_) ?_
  · obtain ⟨i, _, rfl⟩ := List.mem_map.mp hx
    refine be (ix_frontC (Xn_ok V h i).1) (be (m_fo _) ?_)
    show cond (Option.map lt (fo (Xn r cs i) (frontC (Xn r cs i)))).isNone _ _ = some (if oneP (Xn r cs i) = true then _ else _)
    unfold oneP
    cases fo (Xn r cs i) (frontC (Xn r cs i)) <;> rfl
  · rw [List.find?_map]
    unfold firstOne
    have e : ((fun a : Int × List (Int × Str) => oneP (Xn r cs a.1.toNat)) ∘ fun i : Nat => ((i : Int), enc (Xn r cs i))) = fun i : Nat => oneP (Xn r cs i) := rfl
    rw [e]
    cases (List.range n).find? fun i => oneP (Xn r cs i) <;> rfl
theorem filt_find {α : Type} (P : α → Bool) (l : List α) : (l.filter P).head? = l.find? P := List.head?_filter ..
theorem equal_two {u : Option Int} {z : Str} : F__law_equal (eL eA [eO eI u, eS z]) (eL eA [eO eI u, eS z]) = some true := by
  unfold F__law_equal
  have : okST 4 (eL eA [eO eI u, eS z]) (eL eA [eO eI u, eS z]) = true := by
    cases u <;> simp [okST, eL, eA, eO, eI, eS]
  rw [this]
  rfl
theorem m_kept3 {r : Row} {cs os : List Nat} (V : Vr r) (h : ∀ c ∈ cs, c < 10 ^ 12) (z : cs.length ≤ 1000) (h2 : ∀ c ∈ os, c < 10 ^ 12) (z2 : os.length ≤ 1000) : ∃ s, reprF (.list [eRows (enc r), eL eI (nI cs), eL eI (nI os)]) = some s := by
  refine ⟨_, m_repr (n := 3) (m := 3 * (41000 + 1)) ?_ (by decide) (by decide)⟩
  have := Sh.list (B := 13) (n := 2) (m := 41000) (xs := [eRows (enc r), eL eI (nI cs), eL eI (nI os)]) fun x hx => by
    rcases List.mem_cons.mp hx with e | hx
    · rw [e]; exact (sh_enc V).mono (by decide) (by decide)
    rcases List.mem_cons.mp hx with e | hx
    · rw [e]; exact (sh_nI h z).mono (by decide) (by decide)
    · rw [List.mem_singleton.mp hx]; exact (sh_nI h2 z2).mono (by decide) (by decide)
  exact this
theorem m_holds {r : Row} {cs os : List Nat} (V : Vr r) (h : ∀ c ∈ cs, c < r.length) (ne : cs ≠ []) (z : cs.length ≤ 1000) (pm : os.Perm (List.range r.length)) : F__law_holds (enc r) (nI cs) (nI os) = some true := by
  have n1 := V.n1
  have n2 := V.n2
  have ol := pm.length_eq
  rw [List.length_range] at ol
  have olt : ∀ p ∈ os, p < r.length := fun p hp => List.mem_range.mp (pm.mem_iff.mp hp)
  obtain ⟨n, f, z7, R⟩ := rep_ex V h
  have big : ∀ c, c < r.length → c < 10 ^ 12 := fun c hc => Nat.lt_of_lt_of_le hc (Nat.le_trans n2 (by decide))
  obtain ⟨t, ht⟩ := m_kept3 V (fun c hc => big c (h c hc)) z (fun c hc => big c (olt c hc)) (show os.length ≤ 1000 by omega)
  unfold F__law_holds
  refine be ht ?_
  rw [lenI_enc]
  refine be (lrgF_ok (by decide) (by decide) (by omega) (by omega) (by unfold LIM; omega)) ?_
  rw [rgI_nat]
  refine be (m_law_rounds V h z R (by omega)) ?_
  have ln : lenI ((List.range n).map fun i => enc (Xn r cs i)) = (n : Int) := by unfold lenI; rw [List.length_map, List.length_range]
  show Option.bind (rngF 0 (lenI ((List.range n).map fun i => enc (Xn r cs i)))) _ = _
  rw [ln]
  refine be (rngF_ok (by decide) (by decide) (by omega) (by omega)) ?_
  rw [rgI_nat]
  refine be (compL_filt (q := fun a : Int => oneP (Xn r cs a.toNat)) (g := fun a => a) (by rw [List.length_map, List.length_range]; unfold LIM; omega) fun x hx => ?_) ?_
  · obtain ⟨i, hi, rfl⟩ := List.mem_map.mp hx
    have hi := List.mem_range.mp hi
    obtain ⟨Vi, li⟩ := Xn_ok V h i
    obtain ⟨ks, up, mem⟩ := sorted_of ((Xn r cs i).map (·.2)) (cols_ok Vi)
    have k26 := ks_26 Vi up mem
    refine be (ix_nat (rows_at hi)) ?_
    have mc := m_law_colors Vi up mem
    rw [li] at mc
    refine be mc ?_
    refine be (x := (ks.length : Int)) (by
      unfold lenS
      rw [decide_eq_true (show (txt ks).length ≤ LIM by rw [LX.txt_len]; unfold LIM; omega), LX.txt_len]
      rfl) ?_
    rw [ks_len Vi up mem]
    show cond (oneP (Xn r cs i)) _ _ = some (if oneP (Xn r cs i) = true then _ else _)
    cases oneP (Xn r cs i) <;> rfl
  rw [List.map_id']
  refine be (x := firstOne (Xn r cs) n) ?_ ?_
  · have q := (EqE.list EqE.int).run (by decide) (x := ((List.range n).map fun i : Nat => (i : Int)).filter fun a : Int => oneP (Xn r cs a.toNat)) (y := ([] : List Int)) (fun _ _ => trivial) (fun _ _ => trivial)
    refine be q ?_
    have hh : (((List.range n).map fun i : Nat => (i : Int)).filter fun a : Int => oneP (Xn r cs a.toNat)).head? = firstOne (Xn r cs) n := by
      rw [filt_find, List.find?_map]
      rfl
    generalize ((List.range n).map fun i : Nat => (i : Int)).filter (fun a : Int => oneP (Xn r cs a.toNat)) = l at hh
    cases l with
    | nil => rw [← hh]; rfl
    | cons y l =>
      rw [← hh]
      exact be (x := y) (ix_head rfl) rfl
  obtain ⟨Va, la⟩ := apps_len V os olt
  obtain ⟨ks, up, mem⟩ := sorted_of ((apps r os).map (·.2)) (cols_ok Va)
  obtain ⟨l, el, hl⟩ := m_applied V olt (show os.length ≤ 1000 by omega)
  refine be el (be hl ?_)
  have mc := m_law_colors Va up mem
  rw [la] at mc
  refine be mc (be (m_until V h ne R z7) (be (m_left V pm up mem) (be (m_until V h ne R z7) (be (m_left V pm up mem) ?_))))
  refine be (x := true) (be equal_two (be equal_two (be ht ?_))) rfl
  rw [decide_eq_true rfl]
theorem nI_app (a b : List Nat) : nI a ++ nI b = nI (a ++ b) := (List.map_append ..).symm
theorem m_leveling {k : Nat} {bg : List Int} {r : Row} (V : Vr r) (B : Bg k bg) (hk : k < 2 ^ 60) : Ev (F__law_leveling_calls bg (enc r)) fun p => ∃ cs, p.1 = nI cs ∧ (∀ c ∈ cs, c < r.length) ∧ cs.length ≤ 70 ∧ Bg (k + 10) p.2 := by
  have n1 := V.n1
  have n2 := V.n2
  unfold F__law_leveling_calls
  refine ev_be (compL_filt (q := fun a : Int × Str => !decide (a.2 = lt (frontC r))) (g := fun a : Int × Str => a.1) (by rw [enc_len]; unfold LIM; omega) fun x _ => be (ix_frontC V) (by
    show cond (!decide (x.2 = lt (frontC r))) _ _ = _
    cases decide (x.2 = lt (frontC r)) <;> rfl)) ?_
  have e1 : ((enc r).filter fun a : Int × Str => !decide (a.2 = lt (frontC r))).map (fun a : Int × Str => a.1) = nI ((r.filter fun e => !decide (lt e.2 = lt (frontC r))).map (·.1)) := by
    show List.map _ (List.filter _ (r.map eRow)) = List.map _ (List.map _ _)
    rw [List.filter_map, List.map_map, List.map_map]
    rfl
  rw [e1]
  have fl : ((r.filter fun e => !decide (lt e.2 = lt (frontC r))).map (·.1)).length ≤ 60 := by
    rw [List.length_map]
    exact Nat.le_trans (List.length_filter_le _ _) n2
  have fm : ∀ c ∈ (r.filter fun e => !decide (lt e.2 = lt (frontC r))).map (·.1), c < r.length := fun c hc => by
    obtain ⟨e, he, rfl⟩ := List.mem_map.mp hc
    exact V.lt (List.mem_filter.mp he).1
  generalize (r.filter fun e => !decide (lt e.2 = lt (frontC r))).map (·.1) = as at fl fm
  refine ev_b (m_draw B (by decide) (by decide) (by omega)) fun y1 ⟨a0, a1, B1⟩ => ?_
  refine ev_be (rngF_ok (by decide) (by decide) (by omega) (by omega)) ?_
  have rl : (rgI 0 y1.1).length = y1.1.toNat := by rw [rgI_len]; omega
  refine ev_b (ev_compLS (P := fun y : Int => ∃ p : Nat, p < r.length ∧ y = (p : Int)) (by rw [rl]; unfold LIM; omega) (fun i s => i ≤ 2 ∧ Bg (k + 1 + i) s) ⟨Nat.zero_le _, B1⟩ (fun i x s hi ⟨_, Bs⟩ => by
    have il := (List.getElem?_eq_some_iff.mp hi).1
    rw [rl] at il
    rw [lenI_enc]
    refine ev_b (m_draw Bs (by omega) (by omega) (by omega)) fun y2 ⟨c0, c1, B2⟩ => ?_
    exact ev_s ⟨⟨y2.1, rfl, y2.1.toNat, by omega, by omega⟩, by omega, B2⟩)) fun l ⟨h1, h2, _, B2⟩ => ?_
  obtain ⟨bs, eb⟩ := ex_nI fun x hx => (h1 x hx).imp fun p hp => hp.2
  rw [eb]
  have bl : bs.length ≤ 2 := by
    rw [eb, List.length_map, rl] at h2
    omega
  have bm : ∀ c ∈ bs, c < r.length := fun c hc => by
    obtain ⟨p, hp, e⟩ := h1 (c : Int) (by rw [eb]; exact List.mem_map_of_mem (f := fun n : Nat => (n : Int)) hc)
    omega
  refine ev_be (x := nI (as ++ bs)) (by rw [catF_ok (by rw [List.length_map, List.length_map]; unfold LIM; omega), nI_app]) ?_
  refine ev_be (x := nI (as ++ bs ++ bs)) (by rw [catF_ok (by rw [List.length_map, List.length_map, List.length_append]; unfold LIM; omega), nI_app]) ?_
  rw [lenI_enc]
  refine ev_b (m_draw B2 (by omega) (by omega) (by rw [rl]; omega)) fun y3 ⟨d0, d1, B3⟩ => ?_
  refine ev_b (m_draw B3 (by decide) (by decide) (by rw [rl]; omega)) fun y4 ⟨f0, f1, B4⟩ => ?_
  obtain ⟨p, hp⟩ : ∃ p : Nat, y3.1 = (p : Int) := ⟨y3.1.toNat, by omega⟩
  rw [hp]
  refine ev_be (x := nI (List.replicate y4.1.toNat p)) (by
    rw [repF_ok (by omega) (by omega) (by show 1 * _ ≤ _; unfold LIM; omega), flat_rep]
    show some _ = some (List.map _ _)
    rw [List.map_replicate]) ?_
  refine ev_be (x := nI (as ++ bs ++ bs ++ List.replicate y4.1.toNat p)) (by rw [catF_ok (by rw [List.length_map, List.length_map, List.length_append, List.length_append, List.length_replicate]; unfold LIM; omega), nI_app]) ?_
  refine ev_s ⟨_, rfl, fun c hc => ?_, by rw [List.length_append, List.length_append, List.length_append, List.length_replicate]; omega, B4.up (by rw [rl]; omega)⟩
  rcases List.mem_append.mp hc with hc | hc
  · rcases List.mem_append.mp hc with hc | hc
    · rcases List.mem_append.mp hc with hc | hc
      · exact fm c hc
      · exact bm c hc
    · exact bm c hc
  · rw [(List.mem_replicate.mp hc).2]
    omega
theorem law_true (ns : List Int) (hz : ns.length ≤ 63) : F_law ns = some true := by
  unfold F_law
  have cl : (cutL ns none (some (8 : Int))).length ≤ 63 := Nat.le_trans (cutL_len _ _ _) hz
  generalize cutL ns none (some (8 : Int)) = xs at cl
  refine be (catF_ok (by show xs.length + 1 ≤ LIM; unfold LIM; omega)) ?_
  refine be_ev (loop_all (P := fun c => c = .nx ()) (fun _ _ => True) trivial (fun i x s hi _ => ?_) fun s _ => rfl) fun c hc => by rw [hc]; rfl
  refine ev_b (m_bag _) fun b0 B0 => ?_
  have tb : ∃ t : Int, cond (decide (x.1 = lenI xs)) (1 : Int) 2 = t ∧ 0 ≤ t ∧ t ≤ 2 := by cases decide (x.1 = lenI xs) <;> exact ⟨_, rfl, by decide, by decide⟩
  obtain ⟨t, et, t0, t2⟩ := tb
  rw [et]
  refine ev_be (rngF_ok (by decide) (by decide) (by omega) (by omega)) ?_
  refine ev_b (loop_all (P := fun c => ∃ s, c = .nx s) (fun i s => Bg (2000 * i) s) B0 (fun i y s hi B0 => ?_) fun s _ => ⟨s, rfl⟩) fun c ⟨s, e⟩ => ?_
  · have il := (List.getElem?_eq_some_iff.mp hi).1
    rw [rgI_len] at il
    refine ev_b (P := fun p => 1 ≤ p.1 ∧ p.1 ≤ 60 ∧ Bg (2000 * i + 1) p.2) ?_ fun p ⟨p1, p2, B1⟩ => ?_
    · refine ev_c (fun _ => ev_s ⟨by omega, by omega, B0.up (by omega)⟩) fun _ => ?_
      refine ev_b (m_draw B0 (by decide) (by decide) (by omega)) fun y ⟨a0, a1, B1⟩ => ?_
      have z : y.1 = 0 ∨ y.1 = 1 ∨ y.1 = 2 := by omega
      rcases z with z | z | z <;> rw [z] <;> exact ⟨_, rfl, by dsimp only; omega, by dsimp only; omega, B1⟩
    refine ev_b (m_lineup B1 p1 p2 (by omega)) fun q ⟨row, V, e, _, B2⟩ => ?_
    rw [e]
    have n1 := V.n1
    have n2 := V.n2
    rw [lenI_enc]
    refine ev_b (m_draw B2 (by omega) (by omega) (by omega)) fun y2 ⟨c0, c1, B3⟩ => ?_
    refine ev_b (P := fun p => 0 ≤ p.1 ∧ p.1 ≤ 199 ∧ Bg (2000 * i + 400) p.2) ?_ fun p ⟨p1, p2, B4⟩ => ?_
    · refine ev_c (fun _ => ev_s ⟨by omega, by omega, B3.up (by omega)⟩) fun _ => ?_
      refine ev_b (m_draw B3 (by decide) (by decide) (by omega)) fun y ⟨a0, a1, B1⟩ => ?_
      have z : y.1 = 0 ∨ y.1 = 1 ∨ y.1 = 2 := by omega
      rcases z with z | z | z <;> rw [z] <;> exact ⟨_, rfl, by dsimp only; omega, by dsimp only; omega, B1.up (by omega)⟩
    refine ev_b (m_calls B4 (by omega) (by omega) p1 (by omega) (by omega)) fun y5 ⟨cs, e5, hc, lc, B5⟩ => ?_
    obtain ⟨p0, hp0⟩ : ∃ p0 : Nat, y2.1 = (p0 : Int) := ⟨y2.1.toNat, by omega⟩
    rw [e5, hp0]
    have hcs : ∀ c ∈ p0 :: cs, c < row.length := fun c hc' => by
      rcases List.mem_cons.mp hc' with w | w
      · rw [w]; omega
      · have := hc c w; omega
    refine ev_be (x := nI (p0 :: cs)) (catF_ok (by rw [List.length_map]; show 1 + _ ≤ LIM; unfold LIM; omega)) ?_
    refine ev_be (lrgF_ok (by decide) (by decide) (by omega) (by omega) (by unfold LIM; omega)) ?_
    refine ev_be (rngF_ok (by decide) (by decide) (by omega) (by omega)) ?_
    rw [rgI_nat]
    refine ev_b (P := fun r => r.1.Perm (nI (List.range row.length)) ∧ Bg (2000 * i + 1500) r.2.2) ?_ fun l ⟨pm, B6⟩ => ?_
    · unfold compLS
      rw [decide_eq_true (by rw [List.length_map, List.length_range]; unfold LIM; omega)]
      refine (m_shuf _ rfl B5 (by rw [List.length_map, List.length_range]; omega) (by rw [List.length_map, List.length_range]; omega)).imp fun r ⟨h1, h2⟩ => ⟨h1, h2.up (by rw [List.length_map, List.length_range]; omega)⟩
    obtain ⟨os, eo⟩ := ex_nI (l := l.1) fun x hx => by
      obtain ⟨p, _, e⟩ := List.mem_map.mp (pm.mem_iff.mp hx)
      exact ⟨p, e.symm⟩
    have pm2 : os.Perm (List.range row.length) := by
      rw [eo] at pm
      have := pm.map Int.toNat
      rw [nI, nI, List.map_map, List.map_map] at this
      have e : (Int.toNat ∘ fun n : Nat => (n : Int)) = id := rfl
      rw [e, List.map_id, List.map_id] at this
      exact this
    refine ev_b (m_leveling V B6 (by omega)) fun y6 ⟨ds, e6, hd, dl, B7⟩ => ?_
    rw [eo, e6]
    refine ev_be (x := false) ?_ ?_
    · refine be (m_holds V hcs (by simp) (by rw [List.length_cons]; omega) pm2) ?_
      have q := (EqE.list EqE.int).run (by decide) (x := nI ds) (y := ([] : List Int)) (fun _ _ => trivial) (fun _ _ => trivial)
      show Option.bind (Option.bind (eqvF _ _) _) _ = _
      refine be (x := false) (be q ?_) rfl
      by_cases dn : ds = []
      · rw [dn]
        rfl
      · rw [decide_eq_false (fun z => dn (by have := congrArg List.length z; rw [List.length_map] at this; exact List.length_eq_zero_iff.mp this))]
        exact be (m_holds V hd dn (by omega) pm2) rfl
    · refine ev_b (m_draw B7 (by omega) (by omega) (by omega)) fun y7 ⟨f0, f1, B8⟩ => ?_
      obtain ⟨p, hp⟩ : ∃ p : Nat, y7.1 = (p : Int) := ⟨y7.1.toNat, by omega⟩
      rw [hp]
      refine ev_be (x := nI (p :: cs)) (setF_nat (l := nI (p0 :: cs)) (i := 0) (by show 0 < _ + 1; omega)) ?_
      have e8 : (enc row).reverse = enc row.reverse := (List.map_reverse ..).symm
      have e9 : (nI os).reverse = nI os.reverse := (List.map_reverse ..).symm
      rw [e8, e9]
      have V2 := V.by_perm (List.reverse_perm row)
      refine ev_be (m_holds V2 (cs := p :: cs) (fun c hc' => by
        rw [List.length_reverse]
        rcases List.mem_cons.mp hc' with w | w
        · rw [w]; omega
        · have := hc c w; omega) (by simp) (by rw [List.length_cons]; omega) (by rw [List.length_reverse]; exact (List.reverse_perm os).trans pm2)) ?_
      exact ev_s ⟨_, rfl, B8.up (by omega)⟩
  · rw [e]
    exact ev_s ⟨(), rfl, trivial⟩
end LQF

namespace K77
open PySem L2 LX LQ
section
variable {P : Program} {w : World} {K : PySem.W.Frag} {mg : Str → Option Value} {base : Heap} {a : Ad}
def sp_law (K : PySem.W.Frag) : Sp := fun vs H Q _ => ∃ (l : Addr) (ns : List Int), vs = [.ref l] ∧ Scr K H l ns ∧ ns.length ≤ 63 ∧ ∀ H', Q (.bl true) H'
theorem ok_law (T : Txt K mg a) : FnG P w K mg base 9 a.f_law a.d_law ["script"] (sp_law K) := (ok_law0 T).imp fun vs H Q E h => by
  obtain ⟨l, ns, rfl, hS, hz, kq⟩ := h
  exact ⟨l, ns, rfl, hS, true, LQF.law_true ns hz, fun _ H' _ => kq H'⟩
end
theorem all_mk {l : PySem.W.OpenLaw} {w : World} {K : PySem.W.Frag} {h : Heap} {mg : Str → Option Value} {fa : Addr} (X : K.In h) (G : h.Ns mainGlobals mg) (hfa : mg "law" = some (.ref fa))
    {f__law_bag : Addr} {od__law_bag an__law_bag : Option Addr} {sl__law_bag : Array (Option Value)} {oc__law_bag kV__law_bag dc__law_bag pm__law_bag cd__law_bag ct__law_bag : Value}
    {f__law_draw : Addr} {od__law_draw an__law_draw : Option Addr} {sl__law_draw : Array (Option Value)} {oc__law_draw kV__law_draw dc__law_draw pm__law_draw cd__law_draw ct__law_draw : Value}
    {f__law_lineup : Addr} {od__law_lineup an__law_lineup : Option Addr} {sl__law_lineup : Array (Option Value)} {oc__law_lineup kV__law_lineup dc__law_lineup pm__law_lineup cd__law_lineup ct__law_lineup : Value}
    {f__law_leveling_calls : Addr} {od__law_leveling_calls an__law_leveling_calls : Option Addr} {sl__law_leveling_calls : Array (Option Value)} {oc__law_leveling_calls kV__law_leveling_calls dc__law_leveling_calls pm__law_leveling_calls cd__law_leveling_calls ct__law_leveling_calls : Value}
    {f__law_calls : Addr} {od__law_calls an__law_calls : Option Addr} {sl__law_calls : Array (Option Value)} {oc__law_calls kV__law_calls dc__law_calls pm__law_calls cd__law_calls ct__law_calls : Value}
    {f__law_called : Addr} {od__law_called an__law_called : Option Addr} {sl__law_called : Array (Option Value)} {oc__law_called kV__law_called dc__law_called pm__law_called cd__law_called ct__law_called : Value}
    {f__law_applied : Addr} {od__law_applied an__law_applied : Option Addr} {sl__law_applied : Array (Option Value)} {oc__law_applied kV__law_applied dc__law_applied pm__law_applied cd__law_applied ct__law_applied : Value}
    {f__law_rounds : Addr} {od__law_rounds an__law_rounds : Option Addr} {sl__law_rounds : Array (Option Value)} {oc__law_rounds kV__law_rounds dc__law_rounds pm__law_rounds cd__law_rounds ct__law_rounds : Value}
    {f__law_colors : Addr} {od__law_colors an__law_colors : Option Addr} {sl__law_colors : Array (Option Value)} {oc__law_colors kV__law_colors dc__law_colors pm__law_colors cd__law_colors ct__law_colors : Value}
    {f_is_integer : Addr} {od_is_integer an_is_integer : Option Addr} {sl_is_integer : Array (Option Value)} {oc_is_integer kV_is_integer dc_is_integer pm_is_integer cd_is_integer ct_is_integer : Value}
    {f_is_color : Addr} {od_is_color an_is_color : Option Addr} {sl_is_color : Array (Option Value)} {oc_is_color kV_is_color dc_is_color pm_is_color cd_is_color ct_is_color : Value}
    {f_is_colored_integer : Addr} {od_is_colored_integer an_is_colored_integer : Option Addr} {sl_is_colored_integer : Array (Option Value)} {oc_is_colored_integer kV_is_colored_integer dc_is_colored_integer pm_is_colored_integer cd_is_colored_integer ct_is_colored_integer : Value}
    {f_is_lineup : Addr} {od_is_lineup an_is_lineup : Option Addr} {sl_is_lineup : Array (Option Value)} {oc_is_lineup kV_is_lineup dc_is_lineup pm_is_lineup cd_is_lineup ct_is_lineup : Value}
    {f_check_lineup : Addr} {od_check_lineup an_check_lineup : Option Addr} {sl_check_lineup : Array (Option Value)} {oc_check_lineup kV_check_lineup dc_check_lineup pm_check_lineup cd_check_lineup ct_check_lineup : Value}
    {f_is_person : Addr} {od_is_person an_is_person : Option Addr} {sl_is_person : Array (Option Value)} {oc_is_person kV_is_person dc_is_person pm_is_person cd_is_person ct_is_person : Value}
    {f_check_calls : Addr} {od_check_calls an_check_calls : Option Addr} {sl_check_calls : Array (Option Value)} {oc_check_calls kV_check_calls dc_check_calls pm_check_calls cd_check_calls ct_check_calls : Value}
    {f_check_round : Addr} {od_check_round an_check_round : Option Addr} {sl_check_round : Array (Option Value)} {oc_check_round kV_check_round dc_check_round pm_check_round cd_check_round ct_check_round : Value}
    {f_first_other_color : Addr} {od_first_other_color an_first_other_color : Option Addr} {sl_first_other_color : Array (Option Value)} {oc_first_other_color kV_first_other_color dc_first_other_color pm_first_other_color cd_first_other_color ct_first_other_color : Value}
    {f_colors_by_person : Addr} {od_colors_by_person an_colors_by_person : Option Addr} {sl_colors_by_person : Array (Option Value)} {oc_colors_by_person kV_colors_by_person dc_colors_by_person pm_colors_by_person cd_colors_by_person ct_colors_by_person : Value}
    {f_apply_call : Addr} {od_apply_call an_apply_call : Option Addr} {sl_apply_call : Array (Option Value)} {oc_apply_call kV_apply_call dc_apply_call pm_apply_call cd_apply_call ct_apply_call : Value}
    {f_lineup_after : Addr} {od_lineup_after an_lineup_after : Option Addr} {sl_lineup_after : Array (Option Value)} {oc_lineup_after kV_lineup_after dc_lineup_after pm_lineup_after cd_lineup_after ct_lineup_after : Value}
    {f_lineups_by_round : Addr} {od_lineups_by_round an_lineups_by_round : Option Addr} {sl_lineups_by_round : Array (Option Value)} {oc_lineups_by_round kV_lineups_by_round dc_lineups_by_round pm_lineups_by_round cd_lineups_by_round ct_lineups_by_round : Value}
    {f_rounds_until_one_color : Addr} {od_rounds_until_one_color an_rounds_until_one_color : Option Addr} {sl_rounds_until_one_color : Array (Option Value)} {oc_rounds_until_one_color kV_rounds_until_one_color dc_rounds_until_one_color pm_rounds_until_one_color cd_rounds_until_one_color ct_rounds_until_one_color : Value}
    {f_is_order : Addr} {od_is_order an_is_order : Option Addr} {sl_is_order : Array (Option Value)} {oc_is_order kV_is_order dc_is_order pm_is_order cd_is_order ct_is_order : Value}
    {f_check_order : Addr} {od_check_order an_check_order : Option Addr} {sl_check_order : Array (Option Value)} {oc_check_order kV_check_order dc_check_order pm_check_order cd_check_order ct_check_order : Value}
    {f_colors_in_order : Addr} {od_colors_in_order an_colors_in_order : Option Addr} {sl_colors_in_order : Array (Option Value)} {oc_colors_in_order kV_colors_in_order dc_colors_in_order pm_colors_in_order cd_colors_in_order ct_colors_in_order : Value}
    {f_colors_left_by : Addr} {od_colors_left_by an_colors_left_by : Option Addr} {sl_colors_left_by : Array (Option Value)} {oc_colors_left_by kV_colors_left_by dc_colors_left_by pm_colors_left_by cd_colors_left_by ct_colors_left_by : Value}
    {f__law_equal : Addr} {od__law_equal an__law_equal : Option Addr} {sl__law_equal : Array (Option Value)} {oc__law_equal kV__law_equal dc__law_equal pm__law_equal cd__law_equal ct__law_equal : Value}
    {f__law_holds : Addr} {od__law_holds an__law_holds : Option Addr} {sl__law_holds : Array (Option Value)} {oc__law_holds kV__law_holds dc__law_holds pm__law_holds cd__law_holds ct__law_holds : Value}
    {f_law : Addr} {od_law an_law : Option Addr} {sl_law : Array (Option Value)} {oc_law kV_law dc_law pm_law cd_law ct_law : Value}
    {t_MOST_PEOPLE : Tok}
    (a__law_bag : PySem.W.nsIn K mainGlobals "_law_bag" = some (some (.ref f__law_bag)))
    (l__law_bag : K.lookup f__law_bag = some ⟨oc__law_bag, od__law_bag, .func (PySem.W.fnOf "_law_bag" "_law_bag" (defArgs s__law_bag) (defBody s__law_bag) (defScope s__law_bag) .none kV__law_bag dc__law_bag pm__law_bag an__law_bag cd__law_bag ct__law_bag), sl__law_bag⟩)
    (c__law_bag : PySem.W.codeIn K cd__law_bag "_law_bag" = true) (k__law_bag : PySem.W.keepIn K (.ref f__law_bag) = true)
    (a__law_draw : PySem.W.nsIn K mainGlobals "_law_draw" = some (some (.ref f__law_draw)))
    (l__law_draw : K.lookup f__law_draw = some ⟨oc__law_draw, od__law_draw, .func (PySem.W.fnOf "_law_draw" "_law_draw" (defArgs s__law_draw) (defBody s__law_draw) (defScope s__law_draw) .none kV__law_draw dc__law_draw pm__law_draw an__law_draw cd__law_draw ct__law_draw), sl__law_draw⟩)
    (c__law_draw : PySem.W.codeIn K cd__law_draw "_law_draw" = true) (k__law_draw : PySem.W.keepIn K (.ref f__law_draw) = true)
    (a__law_lineup : PySem.W.nsIn K mainGlobals "_law_lineup" = some (some (.ref f__law_lineup)))
    (l__law_lineup : K.lookup f__law_lineup = some ⟨oc__law_lineup, od__law_lineup, .func (PySem.W.fnOf "_law_lineup" "_law_lineup" (defArgs s__law_lineup) (defBody s__law_lineup) (defScope s__law_lineup) .none kV__law_lineup dc__law_lineup pm__law_lineup an__law_lineup cd__law_lineup ct__law_lineup), sl__law_lineup⟩)
    (c__law_lineup : PySem.W.codeIn K cd__law_lineup "_law_lineup" = true) (k__law_lineup : PySem.W.keepIn K (.ref f__law_lineup) = true)
    (a__law_leveling_calls : PySem.W.nsIn K mainGlobals "_law_leveling_calls" = some (some (.ref f__law_leveling_calls)))
    (l__law_leveling_calls : K.lookup f__law_leveling_calls = some ⟨oc__law_leveling_calls, od__law_leveling_calls, .func (PySem.W.fnOf "_law_leveling_calls" "_law_leveling_calls" (defArgs s__law_leveling_calls) (defBody s__law_leveling_calls) (defScope s__law_leveling_calls) .none kV__law_leveling_calls dc__law_leveling_calls pm__law_leveling_calls an__law_leveling_calls cd__law_leveling_calls ct__law_leveling_calls), sl__law_leveling_calls⟩)
    (c__law_leveling_calls : PySem.W.codeIn K cd__law_leveling_calls "_law_leveling_calls" = true) (k__law_leveling_calls : PySem.W.keepIn K (.ref f__law_leveling_calls) = true)
    (a__law_calls : PySem.W.nsIn K mainGlobals "_law_calls" = some (some (.ref f__law_calls)))
    (l__law_calls : K.lookup f__law_calls = some ⟨oc__law_calls, od__law_calls, .func (PySem.W.fnOf "_law_calls" "_law_calls" (defArgs s__law_calls) (defBody s__law_calls) (defScope s__law_calls) .none kV__law_calls dc__law_calls pm__law_calls an__law_calls cd__law_calls ct__law_calls), sl__law_calls⟩)
    (c__law_calls : PySem.W.codeIn K cd__law_calls "_law_calls" = true) (k__law_calls : PySem.W.keepIn K (.ref f__law_calls) = true)
    (a__law_called : PySem.W.nsIn K mainGlobals "_law_called" = some (some (.ref f__law_called)))
    (l__law_called : K.lookup f__law_called = some ⟨oc__law_called, od__law_called, .func (PySem.W.fnOf "_law_called" "_law_called" (defArgs s__law_called) (defBody s__law_called) (defScope s__law_called) .none kV__law_called dc__law_called pm__law_called an__law_called cd__law_called ct__law_called), sl__law_called⟩)
    (c__law_called : PySem.W.codeIn K cd__law_called "_law_called" = true) (k__law_called : PySem.W.keepIn K (.ref f__law_called) = true)
    (a__law_applied : PySem.W.nsIn K mainGlobals "_law_applied" = some (some (.ref f__law_applied)))
    (l__law_applied : K.lookup f__law_applied = some ⟨oc__law_applied, od__law_applied, .func (PySem.W.fnOf "_law_applied" "_law_applied" (defArgs s__law_applied) (defBody s__law_applied) (defScope s__law_applied) .none kV__law_applied dc__law_applied pm__law_applied an__law_applied cd__law_applied ct__law_applied), sl__law_applied⟩)
    (c__law_applied : PySem.W.codeIn K cd__law_applied "_law_applied" = true) (k__law_applied : PySem.W.keepIn K (.ref f__law_applied) = true)
    (a__law_rounds : PySem.W.nsIn K mainGlobals "_law_rounds" = some (some (.ref f__law_rounds)))
    (l__law_rounds : K.lookup f__law_rounds = some ⟨oc__law_rounds, od__law_rounds, .func (PySem.W.fnOf "_law_rounds" "_law_rounds" (defArgs s__law_rounds) (defBody s__law_rounds) (defScope s__law_rounds) .none kV__law_rounds dc__law_rounds pm__law_rounds an__law_rounds cd__law_rounds ct__law_rounds), sl__law_rounds⟩)
    (c__law_rounds : PySem.W.codeIn K cd__law_rounds "_law_rounds" = true) (k__law_rounds : PySem.W.keepIn K (.ref f__law_rounds) = true)
    (a__law_colors : PySem.W.nsIn K mainGlobals "_law_colors" = some (some (.ref f__law_colors)))
    (l__law_colors : K.lookup f__law_colors = some ⟨oc__law_colors, od__law_colors, .func (PySem.W.fnOf "_law_colors" "_law_colors" (defArgs s__law_colors) (defBody s__law_colors) (defScope s__law_colors) .none kV__law_colors dc__law_colors pm__law_colors an__law_colors cd__law_colors ct__law_colors), sl__law_colors⟩)
    (c__law_colors : PySem.W.codeIn K cd__law_colors "_law_colors" = true) (k__law_colors : PySem.W.keepIn K (.ref f__law_colors) = true)
    (a_is_integer : PySem.W.nsIn K mainGlobals "is_integer" = some (some (.ref f_is_integer)))
    (l_is_integer : K.lookup f_is_integer = some ⟨oc_is_integer, od_is_integer, .func (PySem.W.fnOf "is_integer" "is_integer" (defArgs s_is_integer) (defBody s_is_integer) (defScope s_is_integer) .none kV_is_integer dc_is_integer pm_is_integer an_is_integer cd_is_integer ct_is_integer), sl_is_integer⟩)
    (c_is_integer : PySem.W.codeIn K cd_is_integer "is_integer" = true) (k_is_integer : PySem.W.keepIn K (.ref f_is_integer) = true)
    (a_is_color : PySem.W.nsIn K mainGlobals "is_color" = some (some (.ref f_is_color)))
    (l_is_color : K.lookup f_is_color = some ⟨oc_is_color, od_is_color, .func (PySem.W.fnOf "is_color" "is_color" (defArgs s_is_color) (defBody s_is_color) (defScope s_is_color) .none kV_is_color dc_is_color pm_is_color an_is_color cd_is_color ct_is_color), sl_is_color⟩)
    (c_is_color : PySem.W.codeIn K cd_is_color "is_color" = true) (k_is_color : PySem.W.keepIn K (.ref f_is_color) = true)
    (a_is_colored_integer : PySem.W.nsIn K mainGlobals "is_colored_integer" = some (some (.ref f_is_colored_integer)))
    (l_is_colored_integer : K.lookup f_is_colored_integer = some ⟨oc_is_colored_integer, od_is_colored_integer, .func (PySem.W.fnOf "is_colored_integer" "is_colored_integer" (defArgs s_is_colored_integer) (defBody s_is_colored_integer) (defScope s_is_colored_integer) .none kV_is_colored_integer dc_is_colored_integer pm_is_colored_integer an_is_colored_integer cd_is_colored_integer ct_is_colored_integer), sl_is_colored_integer⟩)
    (c_is_colored_integer : PySem.W.codeIn K cd_is_colored_integer "is_colored_integer" = true) (k_is_colored_integer : PySem.W.keepIn K (.ref f_is_colored_integer) = true)
    (a_is_lineup : PySem.W.nsIn K mainGlobals "is_lineup" = some (some (.ref f_is_lineup)))
    (l_is_lineup : K.lookup f_is_lineup = some ⟨oc_is_lineup, od_is_lineup, .func (PySem.W.fnOf "is_lineup" "is_lineup" (defArgs s_is_lineup) (defBody s_is_lineup) (defScope s_is_lineup) .none kV_is_lineup dc_is_lineup pm_is_lineup an_is_lineup cd_is_lineup ct_is_lineup), sl_is_lineup⟩)
    (c_is_lineup : PySem.W.codeIn K cd_is_lineup "is_lineup" = true) (k_is_lineup : PySem.W.keepIn K (.ref f_is_lineup) = true)
    (a_check_lineup : PySem.W.nsIn K mainGlobals "check_lineup" = some (some (.ref f_check_lineup)))
    (l_check_lineup : K.lookup f_check_lineup = some ⟨oc_check_lineup, od_check_lineup, .func (PySem.W.fnOf "check_lineup" "check_lineup" (defArgs s_check_lineup) (defBody s_check_lineup) (defScope s_check_lineup) .none kV_check_lineup dc_check_lineup pm_check_lineup an_check_lineup cd_check_lineup ct_check_lineup), sl_check_lineup⟩)
    (c_check_lineup : PySem.W.codeIn K cd_check_lineup "check_lineup" = true) (k_check_lineup : PySem.W.keepIn K (.ref f_check_lineup) = true)
    (a_is_person : PySem.W.nsIn K mainGlobals "is_person" = some (some (.ref f_is_person)))
    (l_is_person : K.lookup f_is_person = some ⟨oc_is_person, od_is_person, .func (PySem.W.fnOf "is_person" "is_person" (defArgs s_is_person) (defBody s_is_person) (defScope s_is_person) .none kV_is_person dc_is_person pm_is_person an_is_person cd_is_person ct_is_person), sl_is_person⟩)
    (c_is_person : PySem.W.codeIn K cd_is_person "is_person" = true) (k_is_person : PySem.W.keepIn K (.ref f_is_person) = true)
    (a_check_calls : PySem.W.nsIn K mainGlobals "check_calls" = some (some (.ref f_check_calls)))
    (l_check_calls : K.lookup f_check_calls = some ⟨oc_check_calls, od_check_calls, .func (PySem.W.fnOf "check_calls" "check_calls" (defArgs s_check_calls) (defBody s_check_calls) (defScope s_check_calls) .none kV_check_calls dc_check_calls pm_check_calls an_check_calls cd_check_calls ct_check_calls), sl_check_calls⟩)
    (c_check_calls : PySem.W.codeIn K cd_check_calls "check_calls" = true) (k_check_calls : PySem.W.keepIn K (.ref f_check_calls) = true)
    (a_check_round : PySem.W.nsIn K mainGlobals "check_round" = some (some (.ref f_check_round)))
    (l_check_round : K.lookup f_check_round = some ⟨oc_check_round, od_check_round, .func (PySem.W.fnOf "check_round" "check_round" (defArgs s_check_round) (defBody s_check_round) (defScope s_check_round) .none kV_check_round dc_check_round pm_check_round an_check_round cd_check_round ct_check_round), sl_check_round⟩)
    (c_check_round : PySem.W.codeIn K cd_check_round "check_round" = true) (k_check_round : PySem.W.keepIn K (.ref f_check_round) = true)
    (a_first_other_color : PySem.W.nsIn K mainGlobals "first_other_color" = some (some (.ref f_first_other_color)))
    (l_first_other_color : K.lookup f_first_other_color = some ⟨oc_first_other_color, od_first_other_color, .func (PySem.W.fnOf "first_other_color" "first_other_color" (defArgs s_first_other_color) (defBody s_first_other_color) (defScope s_first_other_color) .none kV_first_other_color dc_first_other_color pm_first_other_color an_first_other_color cd_first_other_color ct_first_other_color), sl_first_other_color⟩)
    (c_first_other_color : PySem.W.codeIn K cd_first_other_color "first_other_color" = true) (k_first_other_color : PySem.W.keepIn K (.ref f_first_other_color) = true)
    (a_colors_by_person : PySem.W.nsIn K mainGlobals "colors_by_person" = some (some (.ref f_colors_by_person)))
    (l_colors_by_person : K.lookup f_colors_by_person = some ⟨oc_colors_by_person, od_colors_by_person, .func (PySem.W.fnOf "colors_by_person" "colors_by_person" (defArgs s_colors_by_person) (defBody s_colors_by_person) (defScope s_colors_by_person) .none kV_colors_by_person dc_colors_by_person pm_colors_by_person an_colors_by_person cd_colors_by_person ct_colors_by_person), sl_colors_by_person⟩)
    (c_colors_by_person : PySem.W.codeIn K cd_colors_by_person "colors_by_person" = true) (k_colors_by_person : PySem.W.keepIn K (.ref f_colors_by_person) = true)
    (a_apply_call : PySem.W.nsIn K mainGlobals "apply_call" = some (some (.ref f_apply_call)))
    (l_apply_call : K.lookup f_apply_call = some ⟨oc_apply_call, od_apply_call, .func (PySem.W.fnOf "apply_call" "apply_call" (defArgs s_apply_call) (defBody s_apply_call) (defScope s_apply_call) .none kV_apply_call dc_apply_call pm_apply_call an_apply_call cd_apply_call ct_apply_call), sl_apply_call⟩)
    (c_apply_call : PySem.W.codeIn K cd_apply_call "apply_call" = true) (k_apply_call : PySem.W.keepIn K (.ref f_apply_call) = true)
    (a_lineup_after : PySem.W.nsIn K mainGlobals "lineup_after" = some (some (.ref f_lineup_after)))
    (l_lineup_after : K.lookup f_lineup_after = some ⟨oc_lineup_after, od_lineup_after, .func (PySem.W.fnOf "lineup_after" "lineup_after" (defArgs s_lineup_after) (defBody s_lineup_after) (defScope s_lineup_after) .none kV_lineup_after dc_lineup_after pm_lineup_after an_lineup_after cd_lineup_after ct_lineup_after), sl_lineup_after⟩)
    (c_lineup_after : PySem.W.codeIn K cd_lineup_after "lineup_after" = true) (k_lineup_after : PySem.W.keepIn K (.ref f_lineup_after) = true)
    (a_lineups_by_round : PySem.W.nsIn K mainGlobals "lineups_by_round" = some (some (.ref f_lineups_by_round)))
    (l_lineups_by_round : K.lookup f_lineups_by_round = some ⟨oc_lineups_by_round, od_lineups_by_round, .func (PySem.W.fnOf "lineups_by_round" "lineups_by_round" (defArgs s_lineups_by_round) (defBody s_lineups_by_round) (defScope s_lineups_by_round) .none kV_lineups_by_round dc_lineups_by_round pm_lineups_by_round an_lineups_by_round cd_lineups_by_round ct_lineups_by_round), sl_lineups_by_round⟩)
    (c_lineups_by_round : PySem.W.codeIn K cd_lineups_by_round "lineups_by_round" = true) (k_lineups_by_round : PySem.W.keepIn K (.ref f_lineups_by_round) = true)
    (a_rounds_until_one_color : PySem.W.nsIn K mainGlobals "rounds_until_one_color" = some (some (.ref f_rounds_until_one_color)))
    (l_rounds_until_one_color : K.lookup f_rounds_until_one_color = some ⟨oc_rounds_until_one_color, od_rounds_until_one_color, .func (PySem.W.fnOf "rounds_until_one_color" "rounds_until_one_color" (defArgs s_rounds_until_one_color) (defBody s_rounds_until_one_color) (defScope s_rounds_until_one_color) .none kV_rounds_until_one_color dc_rounds_until_one_color pm_rounds_until_one_color an_rounds_until_one_color cd_rounds_until_one_color ct_rounds_until_one_color), sl_rounds_until_one_color⟩)
    (c_rounds_until_one_color : PySem.W.codeIn K cd_rounds_until_one_color "rounds_until_one_color" = true) (k_rounds_until_one_color : PySem.W.keepIn K (.ref f_rounds_until_one_color) = true)
    (a_is_order : PySem.W.nsIn K mainGlobals "is_order" = some (some (.ref f_is_order)))
    (l_is_order : K.lookup f_is_order = some ⟨oc_is_order, od_is_order, .func (PySem.W.fnOf "is_order" "is_order" (defArgs s_is_order) (defBody s_is_order) (defScope s_is_order) .none kV_is_order dc_is_order pm_is_order an_is_order cd_is_order ct_is_order), sl_is_order⟩)
    (c_is_order : PySem.W.codeIn K cd_is_order "is_order" = true) (k_is_order : PySem.W.keepIn K (.ref f_is_order) = true)
    (a_check_order : PySem.W.nsIn K mainGlobals "check_order" = some (some (.ref f_check_order)))
    (l_check_order : K.lookup f_check_order = some ⟨oc_check_order, od_check_order, .func (PySem.W.fnOf "check_order" "check_order" (defArgs s_check_order) (defBody s_check_order) (defScope s_check_order) .none kV_check_order dc_check_order pm_check_order an_check_order cd_check_order ct_check_order), sl_check_order⟩)
    (c_check_order : PySem.W.codeIn K cd_check_order "check_order" = true) (k_check_order : PySem.W.keepIn K (.ref f_check_order) = true)
    (a_colors_in_order : PySem.W.nsIn K mainGlobals "colors_in_order" = some (some (.ref f_colors_in_order)))
    (l_colors_in_order : K.lookup f_colors_in_order = some ⟨oc_colors_in_order, od_colors_in_order, .func (PySem.W.fnOf "colors_in_order" "colors_in_order" (defArgs s_colors_in_order) (defBody s_colors_in_order) (defScope s_colors_in_order) .none kV_colors_in_order dc_colors_in_order pm_colors_in_order an_colors_in_order cd_colors_in_order ct_colors_in_order), sl_colors_in_order⟩)
    (c_colors_in_order : PySem.W.codeIn K cd_colors_in_order "colors_in_order" = true) (k_colors_in_order : PySem.W.keepIn K (.ref f_colors_in_order) = true)
    (a_colors_left_by : PySem.W.nsIn K mainGlobals "colors_left_by" = some (some (.ref f_colors_left_by)))
    (l_colors_left_by : K.lookup f_colors_left_by = some ⟨oc_colors_left_by, od_colors_left_by, .func (PySem.W.fnOf "colors_left_by" "colors_left_by" (defArgs s_colors_left_by) (defBody s_colors_left_by) (defScope s_colors_left_by) .none kV_colors_left_by dc_colors_left_by pm_colors_left_by an_colors_left_by cd_colors_left_by ct_colors_left_by), sl_colors_left_by⟩)
    (c_colors_left_by : PySem.W.codeIn K cd_colors_left_by "colors_left_by" = true) (k_colors_left_by : PySem.W.keepIn K (.ref f_colors_left_by) = true)
    (a__law_equal : PySem.W.nsIn K mainGlobals "_law_equal" = some (some (.ref f__law_equal)))
    (l__law_equal : K.lookup f__law_equal = some ⟨oc__law_equal, od__law_equal, .func (PySem.W.fnOf "_law_equal" "_law_equal" (defArgs s__law_equal) (defBody s__law_equal) (defScope s__law_equal) .none kV__law_equal dc__law_equal pm__law_equal an__law_equal cd__law_equal ct__law_equal), sl__law_equal⟩)
    (c__law_equal : PySem.W.codeIn K cd__law_equal "_law_equal" = true) (k__law_equal : PySem.W.keepIn K (.ref f__law_equal) = true)
    (a__law_holds : PySem.W.nsIn K mainGlobals "_law_holds" = some (some (.ref f__law_holds)))
    (l__law_holds : K.lookup f__law_holds = some ⟨oc__law_holds, od__law_holds, .func (PySem.W.fnOf "_law_holds" "_law_holds" (defArgs s__law_holds) (defBody s__law_holds) (defScope s__law_holds) .none kV__law_holds dc__law_holds pm__law_holds an__law_holds cd__law_holds ct__law_holds), sl__law_holds⟩)
    (c__law_holds : PySem.W.codeIn K cd__law_holds "_law_holds" = true) (k__law_holds : PySem.W.keepIn K (.ref f__law_holds) = true)
    (a_law : PySem.W.nsIn K mainGlobals "law" = some (some (.ref f_law)))
    (l_law : K.lookup f_law = some ⟨oc_law, od_law, .func (PySem.W.fnOf "law" "law" (defArgs s_law) (defBody s_law) (defScope s_law) .none kV_law dc_law pm_law an_law cd_law ct_law), sl_law⟩)
    (c_law : PySem.W.codeIn K cd_law "law" = true) (k_law : PySem.W.keepIn K (.ref f_law) = true)
    (a_MOST_PEOPLE : PySem.W.nsIn K mainGlobals "MOST_PEOPLE" = some (some (.int 60 t_MOST_PEOPLE)))
    (z_all : PySem.W.nsIn K mainGlobals "all" = some none)
    (z_bool : PySem.W.nsIn K mainGlobals "bool" = some none)
    (z_dict : PySem.W.nsIn K mainGlobals "dict" = some none)
    (z_enumerate : PySem.W.nsIn K mainGlobals "enumerate" = some none)
    (z_int : PySem.W.nsIn K mainGlobals "int" = some none)
    (z_isinstance : PySem.W.nsIn K mainGlobals "isinstance" = some none)
    (z_len : PySem.W.nsIn K mainGlobals "len" = some none)
    (z_list : PySem.W.nsIn K mainGlobals "list" = some none)
    (z_max : PySem.W.nsIn K mainGlobals "max" = some none)
    (z_min : PySem.W.nsIn K mainGlobals "min" = some none)
    (z_range : PySem.W.nsIn K mainGlobals "range" = some none)
    (z_repr : PySem.W.nsIn K mainGlobals "repr" = some none)
    (z_set : PySem.W.nsIn K mainGlobals "set" = some none)
    (z_sorted : PySem.W.nsIn K mainGlobals "sorted" = some none)
    (z_str : PySem.W.nsIn K mainGlobals "str" = some none)
    (z_tuple : PySem.W.nsIn K mainGlobals "tuple" = some none)
    (z_type : PySem.W.nsIn K mainGlobals "type" = some none)
    (z_zip : PySem.W.nsIn K mainGlobals "zip" = some none)
    : ∃ fd : FuncData, (∀ (s : Shared) (v : Value), BindsTo s fd ⟨[v], []⟩ [("script", v)]) ∧ ∀ base : Heap, K.In base → base.Ns mainGlobals mg → FnG l.prog w K mg base 9 fa fd ["script"] (sp_law K) := by
  have e := hfa.symm.trans (PySem.W.mg_of X G a_law)
  cases e
  have F__law_bag := fun_mk (st := s__law_bag) l__law_bag c__law_bag k__law_bag
  have n__law_bag := F__law_bag.binds (ps := ["cell"]) fun _ _ _ _ _ _ us hl => match us, hl with | [_], _ => rfl
  have F__law_draw := fun_mk (st := s__law_draw) l__law_draw c__law_draw k__law_draw
  have n__law_draw := F__law_draw.binds (ps := ["bag", "limit"]) fun _ _ _ _ _ _ us hl => match us, hl with | [_, _], _ => rfl
  have F__law_lineup := fun_mk (st := s__law_lineup) l__law_lineup c__law_lineup k__law_lineup
  have n__law_lineup := F__law_lineup.binds (ps := ["bag", "most"]) fun _ _ _ _ _ _ us hl => match us, hl with | [_, _], _ => rfl
  have F__law_leveling_calls := fun_mk (st := s__law_leveling_calls) l__law_leveling_calls c__law_leveling_calls k__law_leveling_calls
  have n__law_leveling_calls := F__law_leveling_calls.binds (ps := ["bag", "lineup"]) fun _ _ _ _ _ _ us hl => match us, hl with | [_, _], _ => rfl
  have F__law_calls := fun_mk (st := s__law_calls) l__law_calls c__law_calls k__law_calls
  have n__law_calls := F__law_calls.binds (ps := ["bag", "size", "most"]) fun _ _ _ _ _ _ us hl => match us, hl with | [_, _, _], _ => rfl
  have F__law_called := fun_mk (st := s__law_called) l__law_called c__law_called k__law_called
  have n__law_called := F__law_called.binds (ps := ["lineup", "person"]) fun _ _ _ _ _ _ us hl => match us, hl with | [_, _], _ => rfl
  have F__law_applied := fun_mk (st := s__law_applied) l__law_applied c__law_applied k__law_applied
  have n__law_applied := F__law_applied.binds (ps := ["lineup", "calls"]) fun _ _ _ _ _ _ us hl => match us, hl with | [_, _], _ => rfl
  have F__law_rounds := fun_mk (st := s__law_rounds) l__law_rounds c__law_rounds k__law_rounds
  have n__law_rounds := F__law_rounds.binds (ps := ["lineup", "calls"]) fun _ _ _ _ _ _ us hl => match us, hl with | [_, _], _ => rfl
  have F__law_colors := fun_mk (st := s__law_colors) l__law_colors c__law_colors k__law_colors
  have n__law_colors := F__law_colors.binds (ps := ["lineup", "people"]) fun _ _ _ _ _ _ us hl => match us, hl with | [_, _], _ => rfl
  have F_is_integer := fun_mk (st := s_is_integer) l_is_integer c_is_integer k_is_integer
  have n_is_integer := F_is_integer.binds (ps := ["value"]) fun _ _ _ _ _ _ us hl => match us, hl with | [_], _ => rfl
  have F_is_color := fun_mk (st := s_is_color) l_is_color c_is_color k_is_color
  have n_is_color := F_is_color.binds (ps := ["value"]) fun _ _ _ _ _ _ us hl => match us, hl with | [_], _ => rfl
  have F_is_colored_integer := fun_mk (st := s_is_colored_integer) l_is_colored_integer c_is_colored_integer k_is_colored_integer
  have n_is_colored_integer := F_is_colored_integer.binds (ps := ["value"]) fun _ _ _ _ _ _ us hl => match us, hl with | [_], _ => rfl
  have F_is_lineup := fun_mk (st := s_is_lineup) l_is_lineup c_is_lineup k_is_lineup
  have n_is_lineup := F_is_lineup.binds (ps := ["value"]) fun _ _ _ _ _ _ us hl => match us, hl with | [_], _ => rfl
  have F_check_lineup := fun_mk (st := s_check_lineup) l_check_lineup c_check_lineup k_check_lineup
  have n_check_lineup := F_check_lineup.binds (ps := ["value"]) fun _ _ _ _ _ _ us hl => match us, hl with | [_], _ => rfl
  have F_is_person := fun_mk (st := s_is_person) l_is_person c_is_person k_is_person
  have n_is_person := F_is_person.binds (ps := ["lineup", "value"]) fun _ _ _ _ _ _ us hl => match us, hl with | [_, _], _ => rfl
  have F_check_calls := fun_mk (st := s_check_calls) l_check_calls c_check_calls k_check_calls
  have n_check_calls := F_check_calls.binds (ps := ["lineup", "value"]) fun _ _ _ _ _ _ us hl => match us, hl with | [_, _], _ => rfl
  have F_check_round := fun_mk (st := s_check_round) l_check_round c_check_round k_check_round
  have n_check_round := F_check_round.binds (ps := ["lineup", "calls"]) fun _ _ _ _ _ _ us hl => match us, hl with | [_, _], _ => rfl
  have F_first_other_color := fun_mk (st := s_first_other_color) l_first_other_color c_first_other_color k_first_other_color
  have n_first_other_color := F_first_other_color.binds (ps := ["lineup", "color"]) fun _ _ _ _ _ _ us hl => match us, hl with | [_, _], _ => rfl
  have F_colors_by_person := fun_mk (st := s_colors_by_person) l_colors_by_person c_colors_by_person k_colors_by_person
  have n_colors_by_person := F_colors_by_person.binds (ps := ["lineup"]) fun _ _ _ _ _ _ us hl => match us, hl with | [_], _ => rfl
  have F_apply_call := fun_mk (st := s_apply_call) l_apply_call c_apply_call k_apply_call
  have n_apply_call := F_apply_call.binds (ps := ["lineup", "person"]) fun _ _ _ _ _ _ us hl => match us, hl with | [_, _], _ => rfl
  have F_lineup_after := fun_mk (st := s_lineup_after) l_lineup_after c_lineup_after k_lineup_after
  have n_lineup_after := F_lineup_after.binds (ps := ["lineup", "calls"]) fun _ _ _ _ _ _ us hl => match us, hl with | [_, _], _ => rfl
  have F_lineups_by_round := fun_mk (st := s_lineups_by_round) l_lineups_by_round c_lineups_by_round k_lineups_by_round
  have n_lineups_by_round := F_lineups_by_round.binds (ps := ["lineup", "calls"]) fun _ _ _ _ _ _ us hl => match us, hl with | [_, _], _ => rfl
  have F_rounds_until_one_color := fun_mk (st := s_rounds_until_one_color) l_rounds_until_one_color c_rounds_until_one_color k_rounds_until_one_color
  have n_rounds_until_one_color := F_rounds_until_one_color.binds (ps := ["lineup", "calls"]) fun _ _ _ _ _ _ us hl => match us, hl with | [_, _], _ => rfl
  have F_is_order := fun_mk (st := s_is_order) l_is_order c_is_order k_is_order
  have n_is_order := F_is_order.binds (ps := ["lineup", "value"]) fun _ _ _ _ _ _ us hl => match us, hl with | [_, _], _ => rfl
  have F_check_order := fun_mk (st := s_check_order) l_check_order c_check_order k_check_order
  have n_check_order := F_check_order.binds (ps := ["lineup", "value"]) fun _ _ _ _ _ _ us hl => match us, hl with | [_, _], _ => rfl
  have F_colors_in_order := fun_mk (st := s_colors_in_order) l_colors_in_order c_colors_in_order k_colors_in_order
  have n_colors_in_order := F_colors_in_order.binds (ps := ["lineup"]) fun _ _ _ _ _ _ us hl => match us, hl with | [_], _ => rfl
  have F_colors_left_by := fun_mk (st := s_colors_left_by) l_colors_left_by c_colors_left_by k_colors_left_by
  have n_colors_left_by := F_colors_left_by.binds (ps := ["lineup", "order"]) fun _ _ _ _ _ _ us hl => match us, hl with | [_, _], _ => rfl
  have F__law_equal := fun_mk (st := s__law_equal) l__law_equal c__law_equal k__law_equal
  have n__law_equal := F__law_equal.binds (ps := ["found", "due"]) fun _ _ _ _ _ _ us hl => match us, hl with | [_, _], _ => rfl
  have F__law_holds := fun_mk (st := s__law_holds) l__law_holds c__law_holds k__law_holds
  have n__law_holds := F__law_holds.binds (ps := ["lineup", "calls", "order"]) fun _ _ _ _ _ _ us hl => match us, hl with | [_, _, _], _ => rfl
  have F_law := fun_mk (st := s_law) l_law c_law k_law
  have n_law := F_law.binds (ps := ["script"]) fun _ _ _ _ _ _ us hl => match us, hl with | [_], _ => rfl
  have T : Txt K mg { f__law_bag := _, d__law_bag := _, f__law_draw := _, d__law_draw := _, f__law_lineup := _, d__law_lineup := _, f__law_leveling_calls := _, d__law_leveling_calls := _, f__law_calls := _, d__law_calls := _, f__law_called := _, d__law_called := _, f__law_applied := _, d__law_applied := _, f__law_rounds := _, d__law_rounds := _, f__law_colors := _, d__law_colors := _, f_is_integer := _, d_is_integer := _, f_is_color := _, d_is_color := _, f_is_colored_integer := _, d_is_colored_integer := _, f_is_lineup := _, d_is_lineup := _, f_check_lineup := _, d_check_lineup := _, f_is_person := _, d_is_person := _, f_check_calls := _, d_check_calls := _, f_check_round := _, d_check_round := _, f_first_other_color := _, d_first_other_color := _, f_colors_by_person := _, d_colors_by_person := _, f_apply_call := _, d_apply_call := _, f_lineup_after := _, d_lineup_after := _, f_lineups_by_round := _, d_lineups_by_round := _, f_rounds_until_one_color := _, d_rounds_until_one_color := _, f_is_order := _, d_is_order := _, f_check_order := _, d_check_order := _, f_colors_in_order := _, d_colors_in_order := _, f_colors_left_by := _, d_colors_left_by := _, f__law_equal := _, d__law_equal := _, f__law_holds := _, d__law_holds := _, f_law := _, d_law := _, t_MOST_PEOPLE := t_MOST_PEOPLE } := {
    b_all := PySem.W.mg_none_of X G z_all,
    b_bool := PySem.W.mg_none_of X G z_bool,
    b_dict := PySem.W.mg_none_of X G z_dict,
    b_enumerate := PySem.W.mg_none_of X G z_enumerate,
    b_int := PySem.W.mg_none_of X G z_int,
    b_isinstance := PySem.W.mg_none_of X G z_isinstance,
    b_len := PySem.W.mg_none_of X G z_len,
    b_list := PySem.W.mg_none_of X G z_list,
    b_max := PySem.W.mg_none_of X G z_max,
    b_min := PySem.W.mg_none_of X G z_min,
    b_range := PySem.W.mg_none_of X G z_range,
    b_repr := PySem.W.mg_none_of X G z_repr,
    b_set := PySem.W.mg_none_of X G z_set,
    b_sorted := PySem.W.mg_none_of X G z_sorted,
    b_str := PySem.W.mg_none_of X G z_str,
    b_tuple := PySem.W.mg_none_of X G z_tuple,
    b_type := PySem.W.mg_none_of X G z_type,
    b_zip := PySem.W.mg_none_of X G z_zip,
    c_MOST_PEOPLE := PySem.W.mg_of X G a_MOST_PEOPLE,
    F__law_bag := F__law_bag,
    n__law_bag := n__law_bag,
    g__law_bag := PySem.W.mg_of X G a__law_bag,
    k__law_bag := k__law_bag,
    F__law_draw := F__law_draw,
    n__law_draw := n__law_draw,
    g__law_draw := PySem.W.mg_of X G a__law_draw,
    k__law_draw := k__law_draw,
    F__law_lineup := F__law_lineup,
    n__law_lineup := n__law_lineup,
    g__law_lineup := PySem.W.mg_of X G a__law_lineup,
    k__law_lineup := k__law_lineup,
    F__law_leveling_calls := F__law_leveling_calls,
    n__law_leveling_calls := n__law_leveling_calls,
    g__law_leveling_calls := PySem.W.mg_of X G a__law_leveling_calls,
    k__law_leveling_calls := k__law_leveling_calls,
    F__law_calls := F__law_calls,
    n__law_calls := n__law_calls,
    g__law_calls := PySem.W.mg_of X G a__law_calls,
    k__law_calls := k__law_calls,
    F__law_called := F__law_called,
    n__law_called := n__law_called,
    g__law_called := PySem.W.mg_of X G a__law_called,
    k__law_called := k__law_called,
    F__law_applied := F__law_applied,
    n__law_applied := n__law_applied,
    g__law_applied := PySem.W.mg_of X G a__law_applied,
    k__law_applied := k__law_applied,
    F__law_rounds := F__law_rounds,
    n__law_rounds := n__law_rounds,
    g__law_rounds := PySem.W.mg_of X G a__law_rounds,
    k__law_rounds := k__law_rounds,
    F__law_colors := F__law_colors,
    n__law_colors := n__law_colors,
    g__law_colors := PySem.W.mg_of X G a__law_colors,
    k__law_colors := k__law_colors,
    F_is_integer := F_is_integer,
    n_is_integer := n_is_integer,
    g_is_integer := PySem.W.mg_of X G a_is_integer,
    k_is_integer := k_is_integer,
    F_is_color := F_is_color,
    n_is_color := n_is_color,
    g_is_color := PySem.W.mg_of X G a_is_color,
    k_is_color := k_is_color,
    F_is_colored_integer := F_is_colored_integer,
    n_is_colored_integer := n_is_colored_integer,
    g_is_colored_integer := PySem.W.mg_of X G a_is_colored_integer,
    k_is_colored_integer := k_is_colored_integer,
    F_is_lineup := F_is_lineup,
    n_is_lineup := n_is_lineup,
    g_is_lineup := PySem.W.mg_of X G a_is_lineup,
    k_is_lineup := k_is_lineup,
    F_check_lineup := F_check_lineup,
    n_check_lineup := n_check_lineup,
    g_check_lineup := PySem.W.mg_of X G a_check_lineup,
    k_check_lineup := k_check_lineup,
    F_is_person := F_is_person,
    n_is_person := n_is_person,
    g_is_person := PySem.W.mg_of X G a_is_person,
    k_is_person := k_is_person,
    F_check_calls := F_check_calls,
    n_check_calls := n_check_calls,
    g_check_calls := PySem.W.mg_of X G a_check_calls,
    k_check_calls := k_check_calls,
    F_check_round := F_check_round,
    n_check_round := n_check_round,
    g_check_round := PySem.W.mg_of X G a_check_round,
    k_check_round := k_check_round,
    F_first_other_color := F_first_other_color,
    n_first_other_color := n_first_other_color,
    g_first_other_color := PySem.W.mg_of X G a_first_other_color,
    k_first_other_color := k_first_other_color,
    F_colors_by_person := F_colors_by_person,
    n_colors_by_person := n_colors_by_person,
    g_colors_by_person := PySem.W.mg_of X G a_colors_by_person,
    k_colors_by_person := k_colors_by_person,
    F_apply_call := F_apply_call,
    n_apply_call := n_apply_call,
    g_apply_call := PySem.W.mg_of X G a_apply_call,
    k_apply_call := k_apply_call,
    F_lineup_after := F_lineup_after,
    n_lineup_after := n_lineup_after,
    g_lineup_after := PySem.W.mg_of X G a_lineup_after,
    k_lineup_after := k_lineup_after,
    F_lineups_by_round := F_lineups_by_round,
    n_lineups_by_round := n_lineups_by_round,
    g_lineups_by_round := PySem.W.mg_of X G a_lineups_by_round,
    k_lineups_by_round := k_lineups_by_round,
    F_rounds_until_one_color := F_rounds_until_one_color,
    n_rounds_until_one_color := n_rounds_until_one_color,
    g_rounds_until_one_color := PySem.W.mg_of X G a_rounds_until_one_color,
    k_rounds_until_one_color := k_rounds_until_one_color,
    F_is_order := F_is_order,
    n_is_order := n_is_order,
    g_is_order := PySem.W.mg_of X G a_is_order,
    k_is_order := k_is_order,
    F_check_order := F_check_order,
    n_check_order := n_check_order,
    g_check_order := PySem.W.mg_of X G a_check_order,
    k_check_order := k_check_order,
    F_colors_in_order := F_colors_in_order,
    n_colors_in_order := n_colors_in_order,
    g_colors_in_order := PySem.W.mg_of X G a_colors_in_order,
    k_colors_in_order := k_colors_in_order,
    F_colors_left_by := F_colors_left_by,
    n_colors_left_by := n_colors_left_by,
    g_colors_left_by := PySem.W.mg_of X G a_colors_left_by,
    k_colors_left_by := k_colors_left_by,
    F__law_equal := F__law_equal,
    n__law_equal := n__law_equal,
    g__law_equal := PySem.W.mg_of X G a__law_equal,
    k__law_equal := k__law_equal,
    F__law_holds := F__law_holds,
    n__law_holds := n__law_holds,
    g__law_holds := PySem.W.mg_of X G a__law_holds,
    k__law_holds := k__law_holds,
    F_law := F_law,
    n_law := n_law,
    g_law := PySem.W.mg_of X G a_law,
    k_law := k_law }
  exact ⟨_, fun s v => .of_eq rfl, fun base _ _ => ok_law T⟩
theorem walk {l : PySem.W.OpenLaw} {q : Program} {loose : List Str} {XP : (Str → Option Value) → Heap → Prop} {YP : World → Heap → Prop} {d : DefRec} {K : Params → PySem.W.Frag} (hn : l.most = some 63) (hdf : d.params.defaults = [])
    (hY : ∀ (w : World) (h : Heap), YP w h → (K w.params).In h)
    (F : ∀ (w : World) (mg : Str → Option Value) (fa : Addr) (h : Heap), (K w.params).In h → h.Ns mainGlobals mg → mg d.name = some (.ref fa) →
      ∃ fd : FuncData, (∀ (s : Shared) (u : Value), BindsTo s fd ⟨[u], []⟩ [("script", u)]) ∧ ∀ base : Heap, (K w.params).In base → base.Ns mainGlobals mg → FnG l.prog w (K w.params) mg base 9 fa fd ["script"] (sp_law (K w.params))) :
    PySem.W.WalkO q loose XP YP l.row.toRowW d [] (fun f vs => PySem.call f vs) :=
  walk_ofG (n := 63) (k := 9) (x := "script") (sp := fun K => sp_law K) hn (by decide) hdf ⟨rfl, by decide, by decide⟩ hY F (fun _ _ a ns hl hO hS => ⟨a, ns, rfl, Scr.of hO hS, hl, fun _ => rfl⟩)
end K77

open PySem PySem.W PyProof.Rows
set_option maxRecDepth 100000 in
set_option maxHeartbeats 0 in
theorem PySem.Challenge.cw_lastother_k77_one_color_and_colors_left_holds : PySem.Challenge.rw_lastother_k77_one_color_and_colors_left.Holds := by
  w_on; o_law; k_head; (case hw => w_witness2)
  k_fill
  refine K77.walk (l := PySem.Challenge.rw_lastother_k77_one_color_and_colors_left) rfl rfl (fun w h Y => PySem.W.kIn_of Y) ?F
  case F =>
    intro w mg fa h KX G hmg
    refine' K77.all_mk KX G hmg ?a__law_bag ?l__law_bag ?c__law_bag ?k__law_bag ?a__law_draw ?l__law_draw ?c__law_draw ?k__law_draw ?a__law_lineup ?l__law_lineup ?c__law_lineup ?k__law_lineup ?a__law_leveling_calls ?l__law_leveling_calls ?c__law_leveling_calls ?k__law_leveling_calls ?a__law_calls ?l__law_calls ?c__law_calls ?k__law_calls ?a__law_called ?l__law_called ?c__law_called ?k__law_called ?a__law_applied ?l__law_applied ?c__law_applied ?k__law_applied ?a__law_rounds ?l__law_rounds ?c__law_rounds ?k__law_rounds ?a__law_colors ?l__law_colors ?c__law_colors ?k__law_colors ?a_is_integer ?l_is_integer ?c_is_integer ?k_is_integer ?a_is_color ?l_is_color ?c_is_color ?k_is_color ?a_is_colored_integer ?l_is_colored_integer ?c_is_colored_integer ?k_is_colored_integer ?a_is_lineup ?l_is_lineup ?c_is_lineup ?k_is_lineup ?a_check_lineup ?l_check_lineup ?c_check_lineup ?k_check_lineup ?a_is_person ?l_is_person ?c_is_person ?k_is_person ?a_check_calls ?l_check_calls ?c_check_calls ?k_check_calls ?a_check_round ?l_check_round ?c_check_round ?k_check_round ?a_first_other_color ?l_first_other_color ?c_first_other_color ?k_first_other_color ?a_colors_by_person ?l_colors_by_person ?c_colors_by_person ?k_colors_by_person ?a_apply_call ?l_apply_call ?c_apply_call ?k_apply_call ?a_lineup_after ?l_lineup_after ?c_lineup_after ?k_lineup_after ?a_lineups_by_round ?l_lineups_by_round ?c_lineups_by_round ?k_lineups_by_round ?a_rounds_until_one_color ?l_rounds_until_one_color ?c_rounds_until_one_color ?k_rounds_until_one_color ?a_is_order ?l_is_order ?c_is_order ?k_is_order ?a_check_order ?l_check_order ?c_check_order ?k_check_order ?a_colors_in_order ?l_colors_in_order ?c_colors_in_order ?k_colors_in_order ?a_colors_left_by ?l_colors_left_by ?c_colors_left_by ?k_colors_left_by ?a__law_equal ?l__law_equal ?c__law_equal ?k__law_equal ?a__law_holds ?l__law_holds ?c__law_holds ?k__law_holds ?a_law ?l_law ?c_law ?k_law ?a_MOST_PEOPLE ?z_all ?z_bool ?z_dict ?z_enumerate ?z_int ?z_isinstance ?z_len ?z_list ?z_max ?z_min ?z_range ?z_repr ?z_set ?z_sorted ?z_str ?z_tuple ?z_type ?z_zip
    (case a__law_bag => k_is)
    (case l__law_bag => k_is)
    (case c__law_bag => k_is)
    (case k__law_bag => k_is)
    (case a__law_draw => k_is)
    (case l__law_draw => k_is)
    (case c__law_draw => k_is)
    (case k__law_draw => k_is)
    (case a__law_lineup => k_is)
    (case l__law_lineup => k_is)
    (case c__law_lineup => k_is)
    (case k__law_lineup => k_is)
    (case a__law_leveling_calls => k_is)
    (case l__law_leveling_calls => k_is)
    (case c__law_leveling_calls => k_is)
    (case k__law_leveling_calls => k_is)
    (case a__law_calls => k_is)
    (case l__law_calls => k_is)
    (case c__law_calls => k_is)
    (case k__law_calls => k_is)
    (case a__law_called => k_is)
    (case l__law_called => k_is)
    (case c__law_called => k_is)
    (case k__law_called => k_is)
    (case a__law_applied => k_is)
    (case l__law_applied => k_is)
    (case c__law_applied => k_is)
    (case k__law_applied => k_is)
    (case a__law_rounds => k_is)
    (case l__law_rounds => k_is)
    (case c__law_rounds => k_is)
    (case k__law_rounds => k_is)
    (case a__law_colors => k_is)
    (case l__law_colors => k_is)
    (case c__law_colors => k_is)
    (case k__law_colors => k_is)
    (case a_is_integer => k_is)
    (case l_is_integer => k_is)
    (case c_is_integer => k_is)
    (case k_is_integer => k_is)
    (case a_is_color => k_is)
    (case l_is_color => k_is)
    (case c_is_color => k_is)
    (case k_is_color => k_is)
    (case a_is_colored_integer => k_is)
    (case l_is_colored_integer => k_is)
    (case c_is_colored_integer => k_is)
    (case k_is_colored_integer => k_is)
    (case a_is_lineup => k_is)
    (case l_is_lineup => k_is)
    (case c_is_lineup => k_is)
    (case k_is_lineup => k_is)
    (case a_check_lineup => k_is)
    (case l_check_lineup => k_is)
    (case c_check_lineup => k_is)
    (case k_check_lineup => k_is)
    (case a_is_person => k_is)
    (case l_is_person => k_is)
    (case c_is_person => k_is)
    (case k_is_person => k_is)
    (case a_check_calls => k_is)
    (case l_check_calls => k_is)
    (case c_check_calls => k_is)
    (case k_check_calls => k_is)
    (case a_check_round => k_is)
    (case l_check_round => k_is)
    (case c_check_round => k_is)
    (case k_check_round => k_is)
    (case a_first_other_color => k_is)
    (case l_first_other_color => k_is)
    (case c_first_other_color => k_is)
    (case k_first_other_color => k_is)
    (case a_colors_by_person => k_is)
    (case l_colors_by_person => k_is)
    (case c_colors_by_person => k_is)
    (case k_colors_by_person => k_is)
    (case a_apply_call => k_is)
    (case l_apply_call => k_is)
    (case c_apply_call => k_is)
    (case k_apply_call => k_is)
    (case a_lineup_after => k_is)
    (case l_lineup_after => k_is)
    (case c_lineup_after => k_is)
    (case k_lineup_after => k_is)
    (case a_lineups_by_round => k_is)
    (case l_lineups_by_round => k_is)
    (case c_lineups_by_round => k_is)
    (case k_lineups_by_round => k_is)
    (case a_rounds_until_one_color => k_is)
    (case l_rounds_until_one_color => k_is)
    (case c_rounds_until_one_color => k_is)
    (case k_rounds_until_one_color => k_is)
    (case a_is_order => k_is)
    (case l_is_order => k_is)
    (case c_is_order => k_is)
    (case k_is_order => k_is)
    (case a_check_order => k_is)
    (case l_check_order => k_is)
    (case c_check_order => k_is)
    (case k_check_order => k_is)
    (case a_colors_in_order => k_is)
    (case l_colors_in_order => k_is)
    (case c_colors_in_order => k_is)
    (case k_colors_in_order => k_is)
    (case a_colors_left_by => k_is)
    (case l_colors_left_by => k_is)
    (case c_colors_left_by => k_is)
    (case k_colors_left_by => k_is)
    (case a__law_equal => k_is)
    (case l__law_equal => k_is)
    (case c__law_equal => k_is)
    (case k__law_equal => k_is)
    (case a__law_holds => k_is)
    (case l__law_holds => k_is)
    (case c__law_holds => k_is)
    (case k__law_holds => k_is)
    (case a_law => k_is)
    (case l_law => k_is)
    (case c_law => k_is)
    (case k_law => k_is)
    (case a_MOST_PEOPLE => k_is)
    (case z_all => k_is)
    (case z_bool => k_is)
    (case z_dict => k_is)
    (case z_enumerate => k_is)
    (case z_int => k_is)
    (case z_isinstance => k_is)
    (case z_len => k_is)
    (case z_list => k_is)
    (case z_max => k_is)
    (case z_min => k_is)
    (case z_range => k_is)
    (case z_repr => k_is)
    (case z_set => k_is)
    (case z_sorted => k_is)
    (case z_str => k_is)
    (case z_tuple => k_is)
    (case z_type => k_is)
    (case z_zip => k_is)
