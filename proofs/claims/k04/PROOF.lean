import PyProof.Rows.All
import Wide.All
import OpenK.AllK
import Wide.FinOn
import PyProof.EqAt
import PyProof.EqKinds
import PyProof.TupleCall
import HandS.ForMost
import HandS.ForExc
import HandS.IsInst
import HandS.Conv
import HandS.Wide
import HandS.ExcInit
import HandS.ExcField
import HandS.ExcIs
import HandS.EndBits
import HandS.Evl
import HandS.Codes
import HandS.Steps
import KE.DataMinMax
import KE.KIsAll
import KE.KTryMore
import HandS.Gcd
import HandS.Text
import KE.IntText
import PySem.Challenge.RW_falseglim_k04_rhythm_texts
import HandS.Walk
set_option Elab.async false
set_option linter.all false
set_option maxRecDepth 100000
set_option maxHeartbeats 4000000
namespace Fg
open PySem PySem.Spec PyProof.Rows L2

/-! ### texts as lists of signs -/
def S (l : List Nat) : Str := ⟨l.toArray⟩
theorem S_len (l : List Nat) : (S l).length = l.length := by
  show l.toArray.size = l.length
  simp
theorem S_app (l m : List Nat) : S l ++ S m = S (l ++ m) := by
  show Str.append (S l) (S m) = S (l ++ m)
  unfold Str.append S
  simp
theorem S_cps (l : List Nat) : (S l).cps.toList = l := by simp [S]
theorem S_inj {l m : List Nat} (h : S l = S m) : l = m := by
  have h2 := congrArg (fun z : Str => z.cps.toList) h
  simpa [S_cps] using h2
theorem S_eq {l m : List Nat} : (S l = S m) ↔ l = m := ⟨S_inj, fun h => by rw [h]⟩
theorem S_of (z : Str) : ∃ l, z = S l := ⟨z.cps.toList, by cases z; simp [S]⟩
def cutL (l : List Nat) (lo hi : Option Int) : List Nat := (l.drop (HT.sIx l.length 0 lo)).take (HT.sIx l.length l.length hi - HT.sIx l.length 0 lo)
theorem S_cut (l : List Nat) (lo hi : Option Int) : cutS (S l) lo hi = S (cutL l lo hi) := by
  unfold cutS cutL
  rw [S_len, S_cps]
  rfl
theorem sIx_pos {n d : Nat} {i : Int} (h : 0 ≤ i) : HT.sIx n d (some i) = min i.toNat n := by
  show (if i < 0 then (i + (n : Int)).toNat else min i.toNat n) = _
  rw [if_neg (by omega)]
theorem cut_from {l : List Nat} {i : Int} (h : 0 ≤ i) : cutL l (some i) none = l.drop i.toNat := by
  unfold cutL
  rw [sIx_pos h, HT.sIx_none]
  by_cases h2 : i.toNat ≤ l.length
  · rw [Nat.min_eq_left h2]
    apply List.take_of_length_le
    rw [List.length_drop]
    omega
  · rw [Nat.min_eq_right (by omega), List.drop_eq_nil_of_le (by omega), List.drop_eq_nil_of_le (by omega), List.take_nil]
theorem cut_to {l : List Nat} {i : Int} (h : 0 ≤ i) : cutL l none (some i) = l.take i.toNat := by
  unfold cutL
  rw [sIx_pos h, HT.sIx_none]
  show List.take (min i.toNat l.length - 0) (List.drop 0 l) = _
  rw [List.drop_zero, Nat.sub_zero]
  by_cases h2 : i.toNat ≤ l.length
  · rw [Nat.min_eq_left h2]
  · rw [Nat.min_eq_right (by omega), List.take_of_length_le (Nat.le_refl _), List.take_of_length_le (by omega)]

/-! ### operations by signs -/
def rCatS : R2 := fun x y H Q => ∃ i j, x = .str (S i) ∧ y = .str (S j) ∧ i.length + j.length ≤ sizeLine ∧ Q (.str (S (i ++ j))) H
def rSlSS : V → Option Int → Option Int → Hp → VK → Prop := fun x lo hi H Q => ∃ l, x = .str (S l) ∧ l.length ≤ sizeLine ∧ Q (.str (S (cutL l lo hi))) H
def rIxSS : R2 := fun x y H Q => ∃ l i c, x = .str (S l) ∧ y = .int i ∧ l.length ≤ sizeLine ∧ atI l i = some c ∧ Q (.str (S [c])) H
def rNiS : R2 := fun x y H Q => ∃ (c : Nat) (l : List Nat), x = .str (S [c]) ∧ y = .str (S l) ∧ Q (.bl (!decide (c ∈ l))) H
def rInSS : R2 := fun x y H Q => ∃ (c : Nat) (l : List Nat), x = .str (S [c]) ∧ y = .str (S l) ∧ Q (.bl (decide (c ∈ l))) H
def rRepS : R2 := fun x y H Q => ∃ l k, x = .str (S l) ∧ y = .int k ∧ 0 ≤ k ∧ k < 2 ^ 62 ∧ l.length * k.toNat ≤ sizeLine ∧ Q (.str (S (List.replicate k.toNat l).flatten)) H
def CPowW (i j : Int) : Prop := 0 ≤ j ∧ (Builtin.Int.intBits i : Int) * j ≤ 2 ^ 27
def rLenS : List V → Hp → VK → Prop := fun xs H Q => ∃ l, xs = [.str (S l)] ∧ l.length ≤ sizeLine ∧ Q (.int l.length) H
def rLenQ (K : PySem.W.Frag) : List V → Hp → VK → Prop := fun xs H Q => ∃ p ys, xs = [.ref p] ∧ (SqL K H p ys ∨ SqT K H p ys) ∧ Q (.int ys.length) H
def rJoinS (K : PySem.W.Frag) : V → List V → Hp → VK → Prop := fun x xs H Q => ∃ a p, ∃ ys : List (List Nat), x = .str (S a) ∧ xs = [.ref p] ∧ (SqL K H p (ys.map fun l => V.str (S l)) ∨ SqT K H p (ys.map fun l => V.str (S l))) ∧
  (ys.map (·.length)).sum + ys.length * a.length ≤ 16777216 ∧ Q (.str (S (TL.joinL a ys))) H
section
variable {X : Cx}
theorem op_catS : OpR X (binaryOp .Add) rCatS := by
  intro pins s σ H x y v u Q I rx ry h
  obtain ⟨i, j, rfl, rfl, hl, q⟩ := h
  exact op_add_str pins s σ H _ _ v u Q I rx ry ⟨_, _, rfl, rfl, by rw [S_len, S_len]; exact hl, by rw [S_app]; exact q⟩
theorem sl_strS : SlR X rSlSS := by
  intro pins s σ H x v vl vu lo hi sl Q I rx hs pl pu h
  obtain ⟨l, rfl, hl, q⟩ := h
  exact sl_str pins s σ H _ v vl vu lo hi sl Q I rx hs pl pu ⟨_, rfl, by rw [S_len]; exact hl, by rw [S_cut]; exact q⟩
theorem ix_strS : IxR X rIxSS := by
  intro value slice pins s σ H x y v u Q I rx ry h hs
  obtain ⟨l, i, c, rfl, rfl, hl, ha, q⟩ := h
  exact ix_str value slice pins s σ H _ _ v u Q I rx ry ⟨_, _, c, rfl, rfl, by rw [S_len]; exact hl, by rw [S_cps]; exact ha, q⟩ hs
theorem op_niS : OpR X (compareOp .NotIn) rNiS := by
  intro pins s σ H x y v u Q I rx ry h
  obtain ⟨c, l, rfl, rfl, q⟩ := h
  exact op_notIn_sign pins s σ H _ _ v u Q I rx ry ⟨c, _, rfl, rfl, by rw [S_cps]; exact q⟩
theorem op_inSS : OpR X (compareOp .In) rInSS := by
  intro pins s σ H x y v u Q I rx ry h
  obtain ⟨c, l, rfl, rfl, q⟩ := h
  exact op_in_sign pins s σ H _ _ v u Q I rx ry ⟨c, _, rfl, rfl, by rw [S_cps]; exact q⟩
theorem op_powW : OpR X (binaryOp .Pow) (rI CPowW fun i j => .int (i ^ j.toNat)) := opI fun _ _ _ _ _ _ _ hc q => pow_int hc.1 hc.2 q
theorem call_lenS : CallR X (.builtin "len") rLenS := by
  intro pins s σ H xs us Q I r h
  obtain ⟨l, rfl, hl, q⟩ := h
  exact call_len pins s σ H _ us Q I r ⟨_, _, rfl, ⟨by rw [S_len]; exact hl, rfl⟩, by rw [S_len]; exact q⟩
theorem call_lenQ : CallR X (.builtin "len") (rLenQ X.K) := call_len_seq
theorem flat_arr (a : Array Nat) : ∀ (k : Nat) (acc : List Nat), (List.replicate k a).foldl (· ++ ·) acc.toArray = (acc ++ (List.replicate k a.toList).flatten).toArray
  | 0, acc => by simp
  | k + 1, acc => by
    rw [List.replicate_succ, List.foldl_cons]
    have e : acc.toArray ++ a = (acc ++ a.toList).toArray := by simp
    rw [e, flat_arr a k, List.replicate_succ]
    simp [List.append_assoc]
theorem op_repS : OpR X (binaryOp .Mult) rRepS := by
  intro pins s σ H x y v u Q I rx ry h
  obtain ⟨l, k, rfl, rfl, h0, h1, hz, q⟩ := h
  obtain ⟨t, rfl⟩ := rx
  obtain ⟨t2, rfl⟩ := ry
  have hs : sizeLine = 16777216 := sizeLine_eq
  have eL : (S l).length = l.length := S_len l
  have hlen : l.length ≤ 16777216 ∨ k < 1 := by
    by_cases hk : k < 1
    · exact .inr hk
    · left
      have : 1 ≤ k.toNat := by omega
      have := Nat.mul_le_mul_left l.length this
      omega
  refine PySem.P.mul_str (by
      have h2 : ¬ k ≥ 2 ^ 63 := by omega
      have h3 : ¬ k < -(2 ^ 63 : Int) := by omega
      rw [decide_eq_false h3, decide_eq_false h2]; rfl) (fun hk hx => ?_) (fun hk hx => ?_) ?_
  · rw [eL]
    have hl2 : l.length ≤ 16777216 := by omega
    have hk1 : 1 ≤ k := by omega
    have hm : (l.length : Int) * k ≤ 16777216 := by
      have e1 : ((l.length * k.toNat : Nat) : Int) = (l.length : Int) * k := by
        rw [Int.natCast_mul, Int.toNat_of_nonneg h0]
      have : ((l.length * k.toNat : Nat) : Int) ≤ 16777216 := by omega
      omega
    have h4 : (l.length : Int) ≤ (2 ^ 63 - 1) / k := by
      rw [Int.le_ediv_iff_mul_le (by omega)]
      omega
    omega
  · rw [eL]
    have : l.length * k.toNat ≤ 16777216 := by omega
    exact PyProof.Rows.short24 (by omega)
  · by_cases hk : k < 1
    · rw [if_pos hk]
      have ek : k.toNat = 0 := by omega
      rw [ek] at q
      exact ⟨by decide, ⟨.str (S []), H, I.tok _, ⟨_, rfl⟩, q⟩⟩
    · rw [if_neg hk]
      by_cases hx : (k == 1 || (S l).length == 0) = true
      · rw [if_pos hx]
        have e : (List.replicate k.toNat l).flatten = l := by
          rw [eL] at hx
          rcases (Bool.or_eq_true _ _).mp hx with h5 | h5
          · have : k = 1 := by simpa using h5
            subst this
            simp
          · have : l = [] := by
              have := by simpa using h5
              exact this
            subst this
            simp
        rw [e] at q
        exact ⟨.str (S l), H, I, ⟨_, rfl⟩, q⟩
      · rw [if_neg hx]
        have e : (⟨(List.replicate k.toNat (S l).cps).foldl (· ++ ·) #[]⟩ : Str) = S (List.replicate k.toNat l).flatten := by
          have := flat_arr (S l).cps k.toNat []
          rw [S_cps] at this
          unfold S at this ⊢
          simp only [List.nil_append] at this
          rw [← this]
        rw [e]
        refine ⟨?_, ⟨.str (S (List.replicate k.toNat l).flatten), H, I.tok _, ⟨_, rfl⟩, q⟩⟩
        rw [S_len, List.length_flatten, List.map_replicate, List.sum_replicate_nat]
        rw [Nat.mul_comm]
        exact hz
theorem op_repS' : OpR X (binaryOp .Mult) rRepS := op_repS
theorem mt_joinS : MtR X "str.join" (rJoinS X.K) := by
  intro pins s σ H x xs v us Q I rx rs h
  obtain ⟨a, p, ys, rfl, rfl, hp, hz, h⟩ := h
  have e1 : ys.map (fun l => V.str (S l)) = (ys.map SX.S).map V.str := by
    rw [List.map_map]; rfl
  have e2 : S (TL.joinL a ys) = Txt.join (SX.S a) (ys.map SX.S) := (SX.join_S a ys).symm
  rw [e1] at hp
  rw [e2] at h
  refine mt_join pins s σ H _ _ v us Q I rx rs ⟨SX.S a, p, ys.map SX.S, rfl, rfl, hp, ?_, h⟩
  rw [SX.lens, List.length_map, SX.S_len]
  exact hz
/-- min(xs), xs a list of texts -/
def rMinS (K : PySem.W.Frag) : List V → Hp → VK → Prop := fun vs H Q => ∃ (a : Addr) (ls : List (List Nat)), vs = [.ref a] ∧ SqL K H a (ls.map fun l => V.str (S l)) ∧ ls ≠ [] ∧
  ∀ m ∈ ls, (∀ y ∈ ls, ¬ y < m) → Q (.str (S m)) H
theorem dp_strs {K : PySem.W.Frag} {H : Hp} : ∀ ls : List (List Nat), DpAll K H (ls.map fun l => V.str (S l)) (ls.map fun l => PyData.str (S l))
  | [] => .nil
  | l :: r => .cons (.str _) (dp_strs r)
theorem minD_strs : ∀ (r : List (List Nat)) (m : List Nat), ∃ z, (z = m ∨ z ∈ r) ∧ (∀ y, y = m ∨ y ∈ r → ¬ y < z) ∧ (r.map fun l => PyData.str (S l)).foldl (fun a y => if PySem.W.dataLt y a then y else a) (.str (S m)) = .str (S z)
  | [], m => ⟨m, .inl rfl, (fun y hy => by
      rcases hy with rfl | hy
      · exact List.lt_irrefl _
      · cases hy), rfl⟩
  | y :: r, m => by
    rw [List.map_cons, List.foldl_cons, PySem.W.dataLt_str, S_cps, S_cps]
    by_cases h : y < m
    · rw [if_pos (decide_eq_true h)]
      obtain ⟨z, h1, h2, h3⟩ := minD_strs r y
      refine ⟨z, ?_, fun x hx => ?_, h3⟩
      · rcases h1 with h1 | h1
        · exact .inr (by rw [h1]; exact List.mem_cons_self ..)
        · exact .inr (List.mem_cons_of_mem _ h1)
      · rcases hx with rfl | hx
        · intro hlt
          exact h2 y (.inl rfl) (List.lt_trans h hlt)
        · rcases List.mem_cons.mp hx with rfl | hx
          · exact h2 _ (.inl rfl)
          · exact h2 _ (.inr hx)
    · rw [if_neg (by rw [decide_eq_false h]; decide)]
      obtain ⟨z, h1, h2, h3⟩ := minD_strs r m
      refine ⟨z, ?_, fun x hx => ?_, h3⟩
      · rcases h1 with h1 | h1
        · exact .inl h1
        · exact .inr (List.mem_cons_of_mem _ h1)
      · rcases hx with rfl | hx
        · exact h2 _ (.inl rfl)
        · rcases List.mem_cons.mp hx with rfl | hx
          · intro hlt
            have h4 := h2 m (.inl rfl)
            -- x < z, not m > x.. : z ≤ m ≤ x
            have h5 : z ≤ m := List.not_lt.mp h4
            have h6 : m ≤ x := List.not_lt.mp h
            exact absurd hlt (List.not_lt.mpr (List.le_trans h5 h6))
          · exact h2 _ (.inr hx)
theorem cr_minS (hc : X.calm = true) (hu : X.A.units + 64 < cLine) : CallR X (.builtin "min") (rMinS X.K) := by
  intro pins s σ H vs us Q I r h
  obtain ⟨a, ls, rfl, hs, hne, q⟩ := h
  obtain ⟨its, rv, hl, _⟩ := I.list hs
  rw [Vals.ref1 r]
  cases ls with
  | nil => exact absurd rfl hne
  | cons m r =>
    obtain ⟨as, hr⟩ := Dp.readsAll I _ _ _ (dp_strs (K := X.K) (H := H) (m :: r)) rv
    obtain ⟨z, h1, h2, h3⟩ := minD_strs r m
    have hd : ∀ ys : List (List Nat), PyData.depthAll (ys.map fun l => PyData.str (S l)) ≤ 1 := by
      intro ys
      induction ys with
      | nil => exact Nat.zero_le _
      | cons y ys ih => exact Nat.max_le.mpr ⟨by show PyData.depth (.str (S y)) ≤ 1; simp [PyData.depth], ih⟩
    refine PySem.W.min_list_data (I.ok.hd hc) (vs := its.toArray) hl.isList (by rw [List.toList_toArray]; exact hr) ?_ ?_ fun i v h' tk bs hv hb k => ?_
    · constructor
      · intro x hx y hy
        have hx' : x ∈ (m :: r).map fun l => PyData.str (S l) := hx
        have hy' : y ∈ (m :: r).map fun l => PyData.str (S l) := hy
        obtain ⟨p, _, rfl⟩ := List.mem_map.mp hx'
        obtain ⟨p2, _, rfl⟩ := List.mem_map.mp hy'
        rfl
      · intro x hx e
        have hx' : x ∈ (m :: r).map fun l => PyData.str (S l) := hx
        obtain ⟨p, _, rfl⟩ := List.mem_map.mp hx'
        cases e
    · have h9 : PyData.depthAll ((fun l => PyData.str (S l)) m :: List.map (fun l => PyData.str (S l)) r) ≤ 1 := hd (m :: r)
      omega
    · have e : PySem.W.minD (.str (S m)) (r.map fun l => PyData.str (S l)) = .str (S z) := h3
      rw [e] at hb
      cases hb
      refine ⟨.str (S z), H, I.kept k, ⟨_, rfl⟩, q z ?_ ?_⟩
      · rcases h1 with h1 | h1
        · rw [h1]; exact List.mem_cons_self ..
        · exact List.mem_cons_of_mem _ h1
      · intro y hy
        rcases List.mem_cons.mp hy with rfl | hy
        · exact h2 _ (.inl rfl)
        · exact h2 _ (.inr hy)
/-! ### enumerate(text) -/
def Iten (x : Str) : It :=
  ⟨fun i _ => i < x.cps.size, fun i H v H' => ∃ T c, v = .ref T ∧ H T = none ∧ H' = upd H T (.tup [.int (i : Nat), .str ⟨#[c]⟩]) ∧ x.cps[i]? = some c, fun i _ => x.cps.size ≤ i⟩
theorem turn_enumS {P : Program} {w : World} {K : PySem.W.Frag} {elts : List Expr} {kk : Nat} {tpos : Pos} (e it : Addr) (x : Str) (t : Tok) (ty : String) (hty : ty = "str_ascii_iterator" ∨ ty = "str_iterator") :
    Turn P w K (.Tuple elts kk tpos) (Iten x) [e, it] e (fun i h => (∃ old, IsEnum h e it ((i : Nat) : Int) old) ∧ h.IsStrIter it ty x t i ∧ e ≠ it ∧ i ≤ x.cps.size) where
  mem := by simp
  obj := fun i h st b hb => by
    obtain ⟨⟨old, he⟩, ⟨o, ho, hc, hd⟩, _⟩ := st
    have e' : b = e ∨ b = it := by simpa using hb
    rcases e' with z | z
    · rw [z]; exact ⟨_, he, fun v q => nomatch q⟩
    · rw [z]; exact ⟨o, ho, fun v q => by rw [hd] at q; cases q⟩
  keep := fun i h h' st k => let ⟨⟨old, he⟩, ⟨o, ho, r⟩, hne, hle⟩ := st; ⟨⟨old, k e (by simp) _ he⟩, ⟨o, k it (by simp) o ho, r⟩, hne, hle⟩
  item := by
    intro X hP hw hK hc i pins s σ H E I hf st hg
    subst hP hw hK
    obtain ⟨⟨old, he⟩, hit, hne, hle⟩ := st
    have hi : i < x.cps.size := hg
    have hel : e < s.heap.objs.size := Heap.lt_size he
    have hil : it < s.heap.objs.size := by obtain ⟨_, q, _⟩ := hit; exact Heap.lt_size q
    have D : Draws X.prog X.w X.A.in1 it [it] x.cps.size (fun i v => ∃ c u, x.cps[i]? = some c ∧ v = .str ⟨#[c]⟩ u) (fun i h => h.IsStrIter it ty x t i) := by
      rcases hty with e1 | e1
      · rw [e1]; exact Draws.strAscii (A := X.A.in1) (I.ok.hd hc) it x t
      · rw [e1]; exact Draws.strWide (A := X.A.in1) (I.ok.hd hc) it x t
    refine wpAny_pyNext_enum_itemD D he hit hi hne (by simpa using hne) fun u h' tk hv ho hit' hT hsz hk => ?_
    obtain ⟨c, u0, hc0, rfl⟩ := hv
    refine ⟨_, rfl, wpAny_letOwnedTupleGo_enum (s := { s with heap := h', toks := tk + 1 }) ho fun h'' he' sb => ?_⟩
    have hT2 : h''.get? s.heap.objs.size = some { cls := .type "tuple", data := .seq #[.int i tk, .str ⟨#[c]⟩ u0] } := (sb.2 _ (Nat.ne_of_gt hel)).trans hT
    have new : ObjOk X.prog X.w (upd H s.heap.objs.size (.tup [.int (i : Nat), .str ⟨#[c]⟩])) h'' s.heap.objs.size (.tup [.int (i : Nat), .str ⟨#[c]⟩]) :=
      ⟨by show 2 ≤ sizeLine; decide, [.int i tk, .str ⟨#[c]⟩ u0], .cons ⟨_, rfl⟩ (.cons ⟨_, rfl⟩ .nil), ⟨_, hT2, rfl, _, rfl⟩⟩
    have I1 : Inv X pins σ (upd H s.heap.objs.size (.tup [.int (i : Nat), .str ⟨#[c]⟩])) { s with heap := h'', toks := tk + 1 } :=
      I.turnedNew (ch := [e, it]) (fun b ob hb q => (sb.2 b (fun z => hb (by simp [z]))).trans (hk b ob (fun z => hb (by simp [z])) (fun z => hb (by simp [z])) q)) hf (Nat.le_refl _) new
    have hit2 : h''.IsStrIter it ty x t (i + 1) := by
      obtain ⟨o, ho, r⟩ := hit'
      exact ⟨o, (sb.2 it (Ne.symm hne)).trans ho, r⟩
    refine ⟨.ref s.heap.objs.size, _, I1, rfl, ⟨_, c, rfl, I.hok.fresh (Nat.le_refl _), rfl, hc0⟩, ⟨⟨.str ⟨#[c]⟩ u0, ?_⟩, hit2, hne, hi⟩, fun b hb => ?_⟩
    · have e1 : ((i + 1 : Nat) : Int) = (i : Int) + 1 := by omega
      rw [e1]; exact he'
    · have hb' : b < s.heap.objs.size := by
        have e' : b = e ∨ b = it := by simpa using hb
        rcases e' with z | z
        · rw [z]; exact hel
        · rw [z]; exact hil
      rw [upd_ne (Nat.ne_of_lt hb')]
      exact (hf b hb).1
  done := by
    intro X hP hw hK hc i pins s σ H E I hf st hg
    subst hP hw hK
    obtain ⟨⟨old, he⟩, hit, hne, hle⟩ := st
    have hi : x.cps.size ≤ i := hg
    obtain ⟨f0, f1, f2, f3, f4, f5⟩ := hf it (by simp)
    have D : Draws X.prog X.w X.A.in1 it [it] x.cps.size (fun i v => ∃ c u, x.cps[i]? = some c ∧ v = .str ⟨#[c]⟩ u) (fun i h => h.IsStrIter it ty x t i) := by
      rcases hty with e1 | e1
      · rw [e1]; exact Draws.strAscii (A := X.A.in1) (I.ok.hd hc) it x t
      · rw [e1]; exact Draws.strWide (A := X.A.in1) (I.ok.hd hc) it x t
    have e0 : i = x.cps.size := Nat.le_antisymm hle hi
    subst e0
    exact wpAny_pyNext_enum_endD D he hit fun h' eb => ⟨rfl, I.turned (t' := s.toks) (fun b o hb q => eb b o hb q) f0 f1 f3 f4 f5⟩
  self := fun A i s Q E st h => let ⟨⟨_, he⟩, _⟩ := st; wpAny_pyIter_enum he h
def iEnumS (ta : TA) : TI := fun σ H R => ta σ H fun vs H1 => ∃ l, vs = [.str (S l)] ∧ R (Iten (S l)) H1
theorem pi_enumS {e : Expr} {ta : TA} {p pos tpos : Pos} {elts : List Expr} {kk : Nat} (hg : Gl X "enumerate") (hm : X.mg "enumerate" = none) (ha : PA X [e] ta) (hs : starEach [e] X.env = [(false, eval e X.env)] := by rfl) :
    PI X (.Tuple elts kk tpos) (.Call (.Name "enumerate" p) [e] [] pos) (iEnumS ta) := by
  refine ⟨fun pins s σ H R I h => ?_⟩
  refine Call_ (ld_blt I hg hm boot_enumerate (PyProof.Rows.callWith_type1 (thn (ha.run pos pins s σ H _ I h) fun us s1 ⟨vs, H1, I1, r1, q1⟩ => ?_) hs rfl))
  obtain ⟨l, ex, q⟩ := q1
  subst ex
  cases r1 with
  | cons r rr =>
    cases rr
    obtain ⟨t, rfl⟩ := r
    refine call_enumerate_str fun h' he hit hsz hk => wpAny_pyIter_enum he ?_
    have I2 : Inv X pins σ H1 { s1 with heap := h' } := I1.kept (t' := s1.toks) hk
    have hty : strIterType (S l) = "str_ascii_iterator" ∨ strIterType (S l) = "str_iterator" := by
      unfold strIterType
      split
      · exact .inl rfl
      · exact .inr rfl
    refine ⟨s1.heap.objs.size + 1, [s1.heap.objs.size + 1, s1.heap.objs.size], _, _, H1, rfl, I2, turn_enumS (s1.heap.objs.size + 1) s1.heap.objs.size (S l) t _ hty, ⟨⟨.none, he⟩, hit, Nat.succ_ne_self _, Nat.zero_le _⟩, fun b hb => ?_, q⟩
    have e' : b = s1.heap.objs.size + 1 ∨ b = s1.heap.objs.size := by simpa using hb
    have hle : s1.heap.objs.size ≤ b := by
      rcases e' with z | z
      · rw [z]; exact Nat.le_add_right _ _
      · rw [z]; exact Nat.le_refl _
    exact I1.fpOk hle (I1.hok.fresh hle)
/-- for i, c in enumerate(text) -/
theorem for_enumS {l : List Nat} {g : TG} {tb : TS} {D : Ends} {σ : L2.St} {H : Hp} (Pv : Nat → L2.St → Hp → Prop) (h0 : Pv 0 σ H)
    (hs : ∀ i c σ H T, l[i]? = some c → Pv i σ H → H T = none → g (.ref T) σ (upd H T (.tup [.int (i : Nat), .str (S [c])])) fun σ2 H2 => tb { D with nx := Pv (i + 1), ct := Pv (i + 1), bk := D.nx } σ2 H2) (hd : ∀ σ H, Pv l.length σ H → D.nx σ H) :
    ∃ W : Nat → Nat → L2.St → Hp → Prop, (∃ m, W 0 m σ H) ∧ ∀ i m σ H, W i m σ H →
      ((Iten (S l)).stop i H ∧ D.nx σ H) ∨ ((Iten (S l)).go i H ∧ ∃ N : L2.St → Hp → Prop, (∀ σ' H', N σ' H' → ∃ m', m' < m ∧ W (i + 1) m' σ' H') ∧ ∀ x H', (Iten (S l)).yld i H x H' → g x σ H' fun σ2 H2 => tb { D with nx := N, ct := N, bk := D.nx } σ2 H2) := by
  have sz : (S l).cps.size = l.length := S_len l
  have gt : ∀ i : Nat, (S l).cps[i]? = l[i]? := fun i => by
    unfold S
    simp
  refine ⟨fun i m σ H => m = l.length - i ∧ i ≤ l.length ∧ Pv i σ H, ⟨l.length, by simp, Nat.zero_le _, h0⟩, ?_⟩
  rintro i m σ H ⟨rfl, hi, p⟩
  by_cases hlt : i < l.length
  · refine .inr ⟨by show i < (S l).cps.size; omega, Pv (i + 1), fun σ' H' p' => ⟨l.length - (i + 1), by omega, rfl, hlt, p'⟩, fun x H' y => ?_⟩
    obtain ⟨T, c, rfl, hT, rfl, hc⟩ := y
    rw [gt] at hc
    exact hs i c σ H T hc p hT
  · have e : i = l.length := by omega
    subst e
    exact .inl ⟨by show (S l).cps.size ≤ l.length; omega, hd σ H p⟩
end
end Fg

set_option Elab.async false
set_option linter.all false
set_option maxRecDepth 100000
set_option maxHeartbeats 4000000
namespace Fg
open PySem PySem.Spec PyProof.Rows L2

/-! ### heaps -/
abbrev Ex := Evl.Ex
def Kp (d : Addr) (H H' : Hp) : Prop := ∀ b o, b ≠ d → H b = some o → H' b = some o
theorem Kp.refl (d : Addr) (H : Hp) : Kp d H H := fun _ _ _ h => h
theorem Kp.trans {d : Addr} {H H1 H2 : Hp} (a : Kp d H H1) (b : Kp d H1 H2) : Kp d H H2 := fun c o n h => b c o n (a c o n h)
theorem Kp.of {d : Addr} {H H' : Hp} (e : Ex H H') : Kp d H H' := fun b o _ h => e b o h
theorem Kp.upd {d : Addr} {H : Hp} {o : HO} : Kp d H (upd H d o) := fun b u n h => by rw [upd_ne n]; exact h
theorem Kp.l {K : PySem.W.Frag} {d : Addr} {H H' : Hp} (e : Kp d H H') {a : Addr} {xs : List V} (n : a ≠ d) (h : SqL K H a xs) : SqL K H' a xs := by
  rcases h with (h | ⟨o, h⟩) | h
  · exact .inl (.inl (e _ _ n h))
  · exact .inl (.inr ⟨o, e _ _ n h⟩)
  · exact .inr h

/-! ### a def that can be called -/
structure Can (P : Program) (w : World) (K : PySem.W.Frag) (mg : Str → Option Value) (base : Heap) (CX : CXT) (k : Nat) (x : Str) (ps : List Str) (sp : Sp) : Prop where
  ex : ∃ (f : Addr) (fd : FuncData), FnOk P w K mg base CX k f fd ps sp ∧ mg x = some (.ref f) ∧ PySem.W.keepIn K (.ref f) = true ∧ Binds K fd ps []
/-- what the top has written of a def -/
structure Defd (K : PySem.W.Frag) (mg : Str → Option Value) (x : Str) (st : Stmt) (ps : List Str) : Prop where
  ex : ∃ (f : Addr) (fd : FuncData), Fun K x x st f fd ∧ mg x = some (.ref f) ∧ Binds K fd ps []
section
variable {P : Program} {w : World} {K : PySem.W.Frag} {mg : Str → Option Value} {base : Heap}
theorem can0 {x : Str} {st : Stmt} {N ps : List Str} {k : Nat} {sp : Sp} (F : Defd K mg x st ps) (S : FnScope N ps (defScope st)) (len : ∀ vs H Q E, sp vs H Q E → vs.length = ps.length)
    (hbody : ∀ (f : Addr) (cdv : Value) (A : Around) (outer : List Env) (s : Shared) (H : Hp) (vs : List V) (Q : VK) (E : XK), Room k (A.deeper (envOfC x (defScope st) s.heap.objs.size f cdv)) → sp vs H Q E →
      ∃ t, PSs (cxOf L2.CX0 P w K mg base N x (defScope st) f cdv A outer s H E).nox (defBody st) t ∧ t { nx := fun _ H' => Q .non H', rt := Q } (start N vs) H) : Can P w K mg base L2.CX0 (k + 1) x ps sp := by
  obtain ⟨f, fd, F, hm, b⟩ := F.ex
  exact ⟨f, fd, F.ok S len fun cdv A outer s H vs Q E hr h => hbody f cdv A outer s H vs Q E hr h, hm, F.kp, b⟩
theorem canX {x : Str} {st : Stmt} {N ps : List Str} {k : Nat} {sp : Sp} (F : Defd K mg x st ps) (S : FnScope N ps (defScope st)) (len : ∀ vs H Q E, sp vs H Q E → vs.length = ps.length)
    (hbody : ∀ (f : Addr) (cdv : Value) (A : Around) (outer : List Env) (s : Shared) (H : Hp) (vs : List V) (Q : VK) (E : XK), Room k (A.deeper (envOfC x (defScope st) s.heap.objs.size f cdv)) → sp vs H Q E →
      ∃ t, PSs (cxOf (L2.CX P w) P w K mg base N x (defScope st) f cdv A outer s H E) (defBody st) t ∧ t { nx := fun _ H' => Q .non H', rt := Q } (start N vs) H) : Can P w K mg base (L2.CX P w) (k + 1) x ps sp := by
  obtain ⟨f, fd, F, hm, b⟩ := F.ex
  exact ⟨f, fd, F.okX S len fun cdv A outer s H vs Q E hr h => hbody f cdv A outer s H vs Q E hr h, hm, F.kp, b⟩
end
theorem hu64 {k : Nat} {A : Around} (hr : Room k A) : A.units + 64 < cLine := by have := hr.un; omega
section
variable {X : Cx} {k j : Nat} {x : Str} {sp : Sp} {ps : List Str} {p pos : Pos} {e : Expr} {es : List Expr} {t : TA}
theorem pe_can (c : Can X.prog X.w X.K X.mg X.base L2.CX0 k x ps sp) (hr : Room j X.A) (hk : k ≤ j) (hg : Gl X x) (ha : PA X (e :: es) t)
    (hdb : (x == ("__debug__" : Str)) = false := by decide) (he : starEach (e :: es) X.env = (false, eval e X.env) :: starEach es X.env := by rfl) (hpl : (backTo pos (starEach es X.env)).any (·.1) = false := by rfl) :
    PE X (.Call (.Name x p) (e :: es) [] pos) (tCall sp [] L2.E0 t) := by
  obtain ⟨f, fd, F, hm, kp, b⟩ := c.ex
  exact pe_call F (hr.mono hk) hg hm kp b .nil L2.pass0 ha hdb he hpl
/-- a def that may raise, called by one that may -/
theorem pe_canX {E : XK} (c : Can X.prog X.w X.K X.mg X.base (L2.CX X.prog X.w) k x ps sp) (hr : Room j X.A) (hk : k ≤ j) (hg : Gl X x) (hx : Passes (L2.CX X.prog X.w) X E) (ha : PA X (e :: es) t)
    (hdb : (x == ("__debug__" : Str)) = false := by decide) (he : starEach (e :: es) X.env = (false, eval e X.env) :: starEach es X.env := by rfl) (hpl : (backTo pos (starEach es X.env)).any (·.1) = false := by rfl) :
    PE X (.Call (.Name x p) (e :: es) [] pos) (tCall sp [] E t) := by
  obtain ⟨f, fd, F, hm, kp, b⟩ := c.ex
  exact pe_call F (hr.mono hk) hg hm kp b .nil hx ha hdb he hpl
/-- .. called within a try -/
theorem pe_canS {E : L2.St → XK} (c : Can X.prog X.w X.K X.mg X.base (L2.CX X.prog X.w) k x ps sp) (hr : Room j X.A) (hk : k ≤ j) (hg : Gl X x) (hx : ∀ σ, PassesAt (L2.CX X.prog X.w) X σ (E σ)) (ha : PA X (e :: es) t)
    (hdb : (x == ("__debug__" : Str)) = false := by decide) (he : starEach (e :: es) X.env = (false, eval e X.env) :: starEach es X.env := by rfl) (hpl : (backTo pos (starEach es X.env)).any (·.1) = false := by rfl) :
    PE X (.Call (.Name x p) (e :: es) [] pos) (tCallS sp E t) := by
  obtain ⟨f, fd, F, hm, kp, b⟩ := c.ex
  exact pe_callS F (hr.mono hk) hg hm kp b hx ha hdb he hpl
end
theorem pe_strL {X : Cx} {x : Str} {j : Nat} {pos : Pos} (l : List Nat) (h : x = S l) : PE X (.Constant (.str x) j pos) (tC (.str (S l))) := by
  rw [← h]; exact pe_str
theorem Kp.free {d : Addr} {H H' : Hp} (e : Kp d H H') {D : Addr} (hd : H' d ≠ none) (h : H' D = none) : H D = none := by
  cases q : H D with
  | none => rfl
  | some o =>
    have n : D ≠ d := fun z => hd (by rw [← z]; exact h)
    rw [e D o n q] at h
    cases h
theorem Kp.mut {d D : Addr} {H H' : Hp} {o : HO} (e : Kp d H H') (h : H D = none) : Kp d H (L2.upd H' D o) := fun b u n hb => by
  rw [upd_ne (ne_of_none hb h)]
  exact e b u n hb
theorem Kp.new {d D : Addr} {H : Hp} {o : HO} (h : H D = none) : Kp d H (L2.upd H D o) := fun b u _ hb => by
  rw [upd_ne (ne_of_none hb h)]
  exact hb
/-- the built-ins' names stand for the built-ins -/
structure Bi (mg : Str → Option Value) : Prop where
  b_len : mg "len" = none
  b_int : mg "int" = none
  b_str : mg "str" = none
  b_bool : mg "bool" = none
  b_list : mg "list" = none
  b_tuple : mg "tuple" = none
  b_sum : mg "sum" = none
  b_abs : mg "abs" = none
  b_min : mg "min" = none
  b_max : mg "max" = none
  b_sorted : mg "sorted" = none
  b_all : mg "all" = none
  b_any : mg "any" = none
  b_isinstance : mg "isinstance" = none
  b_range : mg "range" = none
  b_enumerate : mg "enumerate" = none
  b_zip : mg "zip" = none
  b_ValueError : mg "ValueError" = none

/-! ### readings, one step each -/
section
variable {σ : L2.St} {H : Hp} {Q : VK} {D : Ends} {ta tb tc te : TE} {t u : TS} {c d : TT} {tl : TA} {i : Nat} {v x y : V} {r : R2} {K : PySem.W.Frag}
theorem r_seq (q : t { D with nx := u D } σ H) : tSeq t u D σ H := q
theorem r_asg {g : TG} (q : te σ H fun x H1 => g x σ H1 D.nx) : tAsg te g D σ H := q
theorem r_gname {Q : L2.St → Hp → Prop} (q : Q (σ.set i (some v)) H) : gName i v σ H Q := q
theorem r_gsub {s : TSet} {Q : L2.St → Hp → Prop} (q : ta σ H fun o H1 => tb σ H1 fun i H2 => s o i v H2 fun H3 => Q σ H3) : gSub ta tb s v σ H Q := q
theorem r_ret (q : te σ H D.rt) : tRet te D σ H := q
theorem r_retN (q : D.rt .non H) : tRetN D σ H := q
theorem r_next (q : D.nx σ H) : tNext D σ H := q
theorem r_drop (q : te σ H fun _ H1 => D.nx σ H1) : tDrop te D σ H := q
theorem r_ifS (q : c σ H fun b H1 => if b = true then t D σ H1 else u D σ H1) : tIfS c t u D σ H := q
theorem r_if (q : c σ H fun b H1 => if b = true then ta σ H1 Q else tb σ H1 Q) : tIf c ta tb σ H Q := q
theorem r_par {j : Nat} (q : tl σ H fun vs H1 => ∃ v w, vs = [v, w] ∧ D.nx ((σ.set i (some v)).set j (some w)) H1) : tPar i j tl D σ H := q
theorem r_pair {P : V → V → Prop} (q : P x y) : ∃ v w, [x, y] = [v, w] ∧ P v w := ⟨x, y, rfl, q⟩
theorem r_test {Q : Bool → Hp → Prop} (q : te σ H fun x H' => ∃ k, x = .bl k ∧ Q k H') : tTest te σ H Q := q
theorem r_tB {Q : Bool → Hp → Prop} (q : te σ H fun x H' => ∃ k, x = .bl k ∧ Q k H') : tB te σ H Q := q
theorem r_not {Q : Bool → Hp → Prop} (q : c σ H fun b H1 => Q (!b) H1) : tNot c σ H Q := q
theorem r_and {Q : Bool → Hp → Prop} (q : c σ H fun b H1 => if b = true then d σ H1 Q else Q false H1) : tAnd c d σ H Q := q
theorem r_or {Q : Bool → Hp → Prop} (q : c σ H fun b H1 => if b = true then Q true H1 else d σ H1 Q) : tOr c d σ H Q := q
theorem r_andV (q : ta σ H fun x H1 => ∃ c, x = .bl c ∧ if c = true then tb σ H1 Q else Q (.bl false) H1) : tAndV ta tb σ H Q := q
theorem r_orV (q : ta σ H fun x H1 => ∃ c, x = .bl c ∧ if c = true then Q (.bl true) H1 else tb σ H1 Q) : tOrV ta tb σ H Q := q
theorem r_notV (q : ta σ H fun x H1 => ∃ c, x = .bl c ∧ Q (.bl (!c)) H1) : tNotV ta σ H Q := q
theorem r_nil {Q : List V → Hp → Prop} (q : Q [] H) : tNil σ H Q := q
theorem r_cons {Q : List V → Hp → Prop} (q : ta σ H fun x H1 => tl σ H1 fun xs H2 => Q (x :: xs) H2) : tCons ta tl σ H Q := q
theorem r_call {sp : Sp} {E : XK} (q : tl σ H fun vs H1 => sp (vs ++ []) H1 Q E) : tCall sp [] E tl σ H Q := q
theorem r_callS {sp : Sp} {E : L2.St → XK} (q : tl σ H fun vs H1 => sp vs H1 Q (E σ)) : tCallS sp E tl σ H Q := q
theorem r_cb {r : List V → Hp → VK → Prop} (q : tl σ H fun vs H1 => r vs H1 Q) : tCB r tl σ H Q := q
theorem r_then {k : V → Hp → VK → Prop} (q : ta σ H fun x H1 => k x H1 Q) : tThen ta k σ H Q := q
theorem r_tup (q : tl σ H fun xs H1 => xs.length ≤ sizeLine ∧ ∀ p, H1 p = none → Q (.ref p) (upd H1 p (.tup xs))) : tTup tl σ H Q := q
theorem r_lst (q : tl σ H fun xs H1 => xs.length ≤ sizeLine ∧ ∀ p, H1 p = none → Q (.ref p) (upd H1 p (.lst xs))) : tLst tl σ H Q := q
theorem r_sl {r : V → Option Int → Option Int → Hp → VK → Prop} {to th : TO} (q : te σ H fun x H1 => to σ H1 fun l H2 => th σ H2 fun u H3 => r x l u H3 Q) : tSl r te to th σ H Q := q
theorem r_nopart {Q : Option Int → Hp → Prop} (q : Q none H) : tNoPart σ H Q := q
theorem r_part {Q : Option Int → Hp → Prop} (q : te σ H fun x H1 => ∃ i, x = .int i ∧ Q (some i) H1) : tPart te σ H Q := q
theorem r_op (q : ta σ H fun x H1 => tb σ H1 fun y H2 => r x y H2 Q) : tOp r ta tb σ H Q := q
theorem r_un {r : V → Hp → VK → Prop} (q : ta σ H fun x H1 => r x H1 Q) : tUn r ta σ H Q := q
theorem r_chain {r' : R2} (q : ta σ H fun x H1 => tb σ H1 fun y H2 => r x y H2 fun z H3 => ∃ k, z = .bl k ∧ (if k = true then tc σ H3 fun w' H4 => r' y w' H4 Q else Q (.bl false) H3)) : tChain r r' ta tb tc σ H Q := q
theorem r_var (h : σ[i]? = some (some v)) (q : Q v H) : tVar i σ H Q := ⟨v, h, q⟩
theorem r_c (q : Q v H) : tC v σ H Q := q
theorem r_yes {Q : Bool → Hp → Prop} (q : Q true H) : tYes σ H Q := q
theorem r_bm {T : String} {r : V → List V → Hp → VK → Prop} {to : TE} (q : to σ H fun x H1 => tyV K T x H1 ∧ tl σ H1 fun xs H2 => r x xs H2 Q) : tBM K T r to tl σ H Q := q
theorem r_bl {b : Bool} {P : Bool → Prop} (q : P b) : ∃ k, V.bl b = V.bl k ∧ P k := ⟨b, rfl, q⟩
theorem r_in {b : Int} {P : Int → Prop} (q : P b) : ∃ k, V.int b = V.int k ∧ P k := ⟨b, rfl, q⟩
theorem r_ty {s : Str} {A : Prop} (q : A) : tyV K "str" (.str s) H ∧ A := ⟨rfl, q⟩
theorem r_I0 {g : Int → Int → V} {i j : Int} (q : Q (g i j) H) : rI0 g (.int i) (.int j) H Q := ⟨i, j, rfl, rfl, q⟩
theorem r_I {C : Int → Int → Prop} {g : Int → Int → V} {i j : Int} (hc : C i j) (q : Q (g i j) H) : rI C g (.int i) (.int j) H Q := ⟨i, j, rfl, rfl, hc, q⟩
theorem r_U {g : Int → V} {i : Int} (q : Q (g i) H) : rU g (.int i) H Q := ⟨i, rfl, q⟩
theorem r_eqI {i j : Int} (q : Q (.bl (decide (i = j))) H) : rEq (.int i) (.int j) H Q := ⟨rfl, by
  rw [show decide (V.int i = V.int j) = decide (i = j) by simp]; exact q⟩
theorem r_neI {i j : Int} (q : Q (.bl (!decide (i = j))) H) : rNe (.int i) (.int j) H Q := ⟨rfl, by
  rw [show decide (V.int i = V.int j) = decide (i = j) by simp]; exact q⟩
theorem r_eqS {i j : List Nat} (q : Q (.bl (decide (i = j))) H) : rEq (.str (S i)) (.str (S j)) H Q := ⟨rfl, by
  rw [show decide (V.str (S i) = V.str (S j)) = decide (i = j) by simp [S_eq]]; exact q⟩
theorem r_neS {i j : List Nat} (q : Q (.bl (!decide (i = j))) H) : rNe (.str (S i)) (.str (S j)) H Q := ⟨rfl, by
  rw [show decide (V.str (S i) = V.str (S j)) = decide (i = j) by simp [S_eq]]; exact q⟩
theorem r_eqB {i j : Bool} (q : Q (.bl (decide (i = j))) H) : rEq (.bl i) (.bl j) H Q := ⟨rfl, by
  rw [show decide (V.bl i = V.bl j) = decide (i = j) by simp]; exact q⟩
theorem r_neB {i j : Bool} (q : Q (.bl (!decide (i = j))) H) : rNe (.bl i) (.bl j) H Q := ⟨rfl, by
  rw [show decide (V.bl i = V.bl j) = decide (i = j) by simp]; exact q⟩
theorem r_catS {i j : List Nat} (h : i.length + j.length ≤ sizeLine) (q : Q (.str (S (i ++ j))) H) : rCatS (.str (S i)) (.str (S j)) H Q := ⟨i, j, rfl, rfl, h, q⟩
theorem r_repS {l : List Nat} {k : Int} (h0 : 0 ≤ k) (h1 : k < 2 ^ 62) (h : l.length * k.toNat ≤ sizeLine) (q : Q (.str (S (List.replicate k.toNat l).flatten)) H) : rRepS (.str (S l)) (.int k) H Q := ⟨l, k, rfl, rfl, h0, h1, h, q⟩
theorem r_slSS {l : List Nat} {lo hi : Option Int} (h : l.length ≤ sizeLine) (q : Q (.str (S (cutL l lo hi))) H) : rSlSS (.str (S l)) lo hi H Q := ⟨l, rfl, h, q⟩
theorem r_ixSS {l : List Nat} {j : Int} {c : Nat} (h : l.length ≤ sizeLine) (h0 : 0 ≤ j) (hc : l[j.toNat]? = some c) (q : Q (.str (S [c])) H) : rIxSS (.str (S l)) (.int j) H Q := ⟨l, j, c, rfl, rfl, h, by
  have e : j = ((j.toNat : Nat) : Int) := by omega
  rw [e]; exact atI_nat hc, q⟩
theorem r_niS {l : List Nat} {c : Nat} (q : Q (.bl (!decide (c ∈ l))) H) : rNiS (.str (S [c])) (.str (S l)) H Q := ⟨c, l, rfl, rfl, q⟩
theorem r_inSS {l : List Nat} {c : Nat} (q : Q (.bl (decide (c ∈ l))) H) : rInSS (.str (S [c])) (.str (S l)) H Q := ⟨c, l, rfl, rfl, q⟩
theorem r_lenS {l : List Nat} (h : l.length ≤ sizeLine) (q : Q (.int l.length) H) : rLenS [.str (S l)] H Q := ⟨l, rfl, h, q⟩
theorem r_lenL {p : Addr} {ys : List V} (h : SqL K H p ys) (q : Q (.int ys.length) H) : rLenQ K [.ref p] H Q := ⟨p, ys, rfl, .inl h, q⟩
theorem r_lenT {p : Addr} {ys : List V} (h : SqT K H p ys) (q : Q (.int ys.length) H) : rLenQ K [.ref p] H Q := ⟨p, ys, rfl, .inr h, q⟩
theorem r_ixL {p : Addr} {xs : List V} {j : Int} (h : SqL K H p xs) (h0 : 0 ≤ j) (hc : xs[j.toNat]? = some v) (q : Q v H) : rIxL K (.ref p) (.int j) H Q := ⟨p, xs, j, v, rfl, rfl, h, by
  have e : j = ((j.toNat : Nat) : Int) := by omega
  rw [e]; exact atI_nat hc, q⟩
theorem r_ixT {p : Addr} {xs : List V} {j : Int} (h : SqT K H p xs) (h0 : 0 ≤ j) (hc : xs[j.toNat]? = some v) (q : Q v H) : rIxT K (.ref p) (.int j) H Q := ⟨p, xs, j, v, rfl, rfl, h, by
  have e : j = ((j.toNat : Nat) : Int) := by omega
  rw [e]; exact atI_nat hc, q⟩
theorem r_setL {p : Addr} {xs : List V} {j : Int} {Q : Hp → Prop} (h : H p = some (.lst xs)) (h0 : 0 ≤ j) (hj : j.toNat < xs.length) (q : Q (upd H p (.lst (xs.set j.toNat v)))) : rSetL (.ref p) (.int j) v H Q := ⟨p, xs, j, j.toNat, rfl, rfl, h, by
  have e : j = ((j.toNat : Nat) : Int) := by omega
  have := Evl.ixN_nat hj
  rw [← e] at this
  exact this, q⟩
theorem r_sum {p : Addr} {ns : List Int} (h : SqL K H p (ns.map V.int)) (q : Q (.int ns.sum) H) : rSum K [.ref p] H Q := ⟨p, ns, rfl, h, q⟩
theorem take_map {α β : Type} {l : List α} {i : Nat} {x : β} {f : α → β} (h : (l.map f)[i]? = some x) : (l.take (i + 1)).map f = (l.take i).map f ++ [x] := by
  rw [List.getElem?_map] at h
  cases e : l[i]? with
  | none => rw [e] at h; cases h
  | some y =>
    rw [e] at h
    have e2 : f y = x := Option.some.inj h
    rw [List.take_add_one, e, List.map_append, ← e2]
    rfl
theorem lt_of_get {α : Type} {l : List α} {i : Nat} {x : α} (h : l[i]? = some x) : i < l.length := (List.getElem?_eq_some_iff.mp h).1
theorem r_join {p : Addr} {a : List Nat} {ys : List (List Nat)} (h : SqL K H p (ys.map fun l => V.str (S l))) (hz : (ys.map (·.length)).sum + ys.length * a.length ≤ 16777216) (q : Q (.str (S (TL.joinL a ys))) H) : rJoinS K (.str (S a)) [.ref p] H Q := ⟨a, p, ys, rfl, rfl, .inl h, hz, q⟩
theorem joinL_nil : ∀ ys : List (List Nat), TL.joinL [] ys = ys.flatten
  | [] => rfl
  | [p] => by simp [TL.joinL]
  | p :: q :: r => by
    show p ++ ([] ++ TL.joinL [] (q :: r)) = _
    rw [joinL_nil (q :: r)]
    rfl
theorem joinL_one (l : List Nat) : TL.joinL [] (l.map fun c => [c]) = l := by
  rw [joinL_nil]
  induction l with
  | nil => rfl
  | cons x r ih => rw [List.map_cons, List.flatten_cons, ih]; rfl
/-- ''.join of signs -/
theorem r_joinC {p : Addr} {l : List Nat} (h : SqL K H p (l.map fun c => V.str (S [c]))) (hz : l.length ≤ 100000) (q : Q (.str (S l)) H) : rJoinS K (.str (S [])) [.ref p] H Q := by
  have e : l.map (fun c => V.str (S [c])) = (l.map fun c => [c]).map fun l => V.str (S l) := by rw [List.map_map]; rfl
  rw [e] at h
  refine r_join h ?_ (by rw [joinL_one]; exact q)
  rw [List.map_map, List.length_map]
  have : (l.map ((fun x => x.length) ∘ fun c => [c])).sum = l.length := by
    clear h e q hz
    induction l with
    | nil => rfl
    | cons x r ih => rw [List.map_cons, List.sum_cons, ih, List.length_cons]; show 1 + r.length = r.length + 1; omega
  rw [this]
  show l.length + l.length * 0 ≤ _
  omega
theorem r_tupL {p : Addr} {xs : List V} (h : SqL K H p xs) (q : ∀ t, H t = none → Q (.ref t) (upd H t (.tup xs))) : kTup K (.ref p) H Q := .inl ⟨p, xs, rfl, h, q⟩
theorem r_tupT {p : Addr} {xs : List V} (h : SqT K H p xs) (q : Q (.ref p) H) : kTup K (.ref p) H Q := .inr ⟨p, xs, rfl, h, q⟩
theorem r_all {p : Addr} {bs : List Bool} (h : SqL K H p (bs.map V.bl)) (q : Q (.bl (bs.all id)) H) : rAll K [.ref p] H Q := ⟨p, bs, rfl, h, q⟩
theorem r_minS {p : Addr} {ls : List (List Nat)} (h : SqL K H p (ls.map fun l => V.str (S l))) (hn : ls ≠ []) (q : ∀ m ∈ ls, (∀ y ∈ ls, ¬ y < m) → Q (.str (S m)) H) : rMinS K [.ref p] H Q := ⟨p, ls, rfl, h, hn, q⟩
theorem ltCps_iff : ∀ a b : List Nat, PySem.Spec.ltCps a b = true ↔ a < b
  | [], [] => by simp [PySem.Spec.ltCps]
  | [], _ :: _ => by simp [PySem.Spec.ltCps]
  | _ :: _, [] => by simp [PySem.Spec.ltCps]
  | a :: r, b :: t => by
    simp only [PySem.Spec.ltCps, Bool.or_eq_true, Bool.and_eq_true, decide_eq_true_eq, beq_iff_eq, List.cons_lt_cons_iff, ltCps_iff r t]
theorem rising_le : ∀ (zs : List Str) (p : Str), PyProof.Rows.risingS p zs = true → ∀ y ∈ zs, ¬ y.cps.toList < p.cps.toList
  | [], _, _, y, hy => by cases hy
  | x :: r, p, h, y, hy => by
    have h' : (!PySem.Spec.ltCps x.cps.toList p.cps.toList && PyProof.Rows.risingS x r) = true := h
    rw [Bool.and_eq_true, Bool.not_eq_true'] at h'
    have hx : ¬ x.cps.toList < p.cps.toList := fun z => by
      have := (ltCps_iff _ _).mpr z
      rw [h'.1] at this
      cases this
    rcases List.mem_cons.mp hy with rfl | hy
    · exact hx
    · have := rising_le r x h'.2 y hy
      exact fun z => absurd z (List.not_lt.mpr (List.le_trans (List.not_lt.mp hx) (List.not_lt.mp this)))
/-- sorted(texts): its first is the least -/
theorem r_sortedS {p : Addr} {ls : List (List Nat)} (h : SqL K H p (ls.map fun l => V.str (S l))) (hl : ls.length < 64) (hn : ls ≠ [])
    (q : ∀ z zs d, z ∈ ls → (∀ y ∈ ls, ¬ y < z) → H d = none → Q (.ref d) (upd H d (.lst (.str (S z) :: zs)))) : rSortedS K [.ref p] H Q := by
  have e : ls.map (fun l => V.str (S l)) = (ls.map S).map V.str := by rw [List.map_map]; rfl
  rw [e] at h
  refine ⟨p, ls.map S, rfl, h, by rw [List.length_map]; exact hl, fun ys d hp hs hd => ?_⟩
  cases ys with
  | nil =>
    have := hp.length_eq
    rw [List.length_map] at this
    exact absurd (List.length_eq_zero_iff.mp this.symm) hn
  | cons y r =>
    have hy : y ∈ ls.map S := hp.mem_iff.mp (List.mem_cons_self ..)
    obtain ⟨z, hz, rfl⟩ := List.mem_map.mp hy
    refine q z (r.map V.str) d hz (fun x hx => ?_) hd
    have hx2 : S x ∈ S z :: r := hp.mem_iff.mpr (List.mem_map.mpr ⟨x, hx, rfl⟩)
    rcases List.mem_cons.mp hx2 with e | hx3
    · rw [S_inj e]; exact List.lt_irrefl _
    · have := rising_le r (S z) hs (S x) hx3
      rwa [S_cps, S_cps] at this
theorem kb_int_int : kitB "int" "int" = some true := by decide +kernel
theorem kb_int_bool : kitB "int" "bool" = some false := by decide +kernel
theorem kb_int_str : kitB "int" "str" = some false := by decide +kernel
theorem kb_int_list : kitB "int" "list" = some false := by decide +kernel
theorem kb_int_tuple : kitB "int" "tuple" = some false := by decide +kernel
theorem kb_bool_int : kitB "bool" "int" = some true := by decide +kernel
theorem kb_bool_bool : kitB "bool" "bool" = some true := by decide +kernel
theorem kb_bool_str : kitB "bool" "str" = some false := by decide +kernel
theorem kb_bool_list : kitB "bool" "list" = some false := by decide +kernel
theorem kb_bool_tuple : kitB "bool" "tuple" = some false := by decide +kernel
theorem kb_str_int : kitB "str" "int" = some false := by decide +kernel
theorem kb_str_bool : kitB "str" "bool" = some false := by decide +kernel
theorem kb_str_str : kitB "str" "str" = some true := by decide +kernel
theorem kb_str_list : kitB "str" "list" = some false := by decide +kernel
theorem kb_str_tuple : kitB "str" "tuple" = some false := by decide +kernel
theorem kb_NoneType_int : kitB "NoneType" "int" = some false := by decide +kernel
theorem kb_NoneType_bool : kitB "NoneType" "bool" = some false := by decide +kernel
theorem kb_NoneType_str : kitB "NoneType" "str" = some false := by decide +kernel
theorem kb_NoneType_list : kitB "NoneType" "list" = some false := by decide +kernel
theorem kb_NoneType_tuple : kitB "NoneType" "tuple" = some false := by decide +kernel
theorem kb_list_int : kitB "list" "int" = some false := by decide +kernel
theorem kb_list_bool : kitB "list" "bool" = some false := by decide +kernel
theorem kb_list_str : kitB "list" "str" = some false := by decide +kernel
theorem kb_list_list : kitB "list" "list" = some true := by decide +kernel
theorem kb_list_tuple : kitB "list" "tuple" = some false := by decide +kernel
theorem kb_tuple_int : kitB "tuple" "int" = some false := by decide +kernel
theorem kb_tuple_bool : kitB "tuple" "bool" = some false := by decide +kernel
theorem kb_tuple_str : kitB "tuple" "str" = some false := by decide +kernel
theorem kb_tuple_list : kitB "tuple" "list" = some false := by decide +kernel
theorem kb_tuple_tuple : kitB "tuple" "tuple" = some true := by decide +kernel
theorem r_isi {x : V} {n m : String} {b : Bool} (ht : TyX K H x (.type m)) (hk : kitB m n = some b) (q : Q (.bl b) H) : rIsi K [x, .ty n] H Q := ⟨x, .ty n, _, _, b, rfl, .ty n, ht, kit_ty hk, q⟩
/-- int(an int), abs(an int) -/
def rInt1 : List V → Hp → VK → Prop := fun xs H Q => ∃ i, xs = [.int i] ∧ Q (.int i) H
def rAbs : List V → Hp → VK → Prop := fun xs H Q => ∃ i, xs = [.int i] ∧ Q (.int (if i < 0 then -i else i)) H
theorem call_intI {X : Cx} : CallR X (.type "int") rInt1 := by
  intro pins s σ H xs us Q I r h
  exact call_int1 pins s σ H xs us Q I r (.inl h)
theorem call_absI {X : Cx} : CallR X (.builtin "abs") rAbs := call_abs
theorem r_int {i : Int} (q : Q (.int i) H) : rInt1 [.int i] H Q := ⟨i, rfl, q⟩
theorem r_abs {i : Int} (q : Q (.int (if i < 0 then -i else i)) H) : rAbs [.int i] H Q := ⟨i, rfl, q⟩
theorem r_cS {l : List Nat} (q : Q (.str (S l)) H) : tC (.str (S l)) σ H Q := q
theorem r_cs {s : Str} (q : Q (.str (S s.cps.toList)) H) : tC (.str s) σ H Q := by
  have e : s = S s.cps.toList := by cases s; simp [S]
  show Q (.str s) H
  rw [e]; exact q
theorem r_cut {Mid : L2.St → Hp → Prop} (h : t { D with nx := Mid } σ H) (k : ∀ σ' H', Mid σ' H' → u D σ' H') : Evl.tCut t u D σ H := ⟨Mid, h, k⟩
theorem r_ite {p : Prop} [Decidable p] {A B : Prop} (h1 : p → A) (h2 : ¬ p → B) : if decide p = true then A else B := by
  by_cases h : p
  · rw [decide_eq_true h]; exact h1 h
  · rw [decide_eq_false h]; exact h2 h
theorem r_iteN {p : Prop} [Decidable p] {A B : Prop} (h1 : ¬ p → A) (h2 : p → B) : if (!decide p) = true then A else B := by
  by_cases h : p
  · rw [decide_eq_true h]; exact h2 h
  · rw [decide_eq_false h]; exact h1 h
theorem r_notNn (q : Q (.bl false) H) : rNotN .non .non H Q := ⟨rfl, q⟩
theorem r_notN_int {i : Int} (q : Q (.bl true) H) : rNotN (.int i) .non H Q := ⟨rfl, q⟩
theorem r_notN_str {i : Str} (q : Q (.bl true) H) : rNotN (.str i) .non H Q := ⟨rfl, q⟩
theorem r_notN_ref {i : Addr} (q : Q (.bl true) H) : rNotN (.ref i) .non H Q := ⟨rfl, q⟩
theorem r_isNn (q : Q (.bl true) H) : rIsN .non .non H Q := ⟨rfl, q⟩
theorem r_isN_int {i : Int} (q : Q (.bl false) H) : rIsN (.int i) .non H Q := ⟨rfl, q⟩
theorem r_isN_str {i : Str} (q : Q (.bl false) H) : rIsN (.str i) .non H Q := ⟨rfl, q⟩
theorem r_isN_ref {i : Addr} (q : Q (.bl false) H) : rIsN (.ref i) .non H Q := ⟨rfl, q⟩
theorem r_iteB {b : Bool} {A B : Prop} (h1 : b = true → A) (h2 : b = false → B) : if b = true then A else B := by
  cases b with
  | true => exact h1 rfl
  | false => exact h2 rfl
theorem r_T {A B : Prop} (h : A) : if true = true then A else B := h
theorem r_F {A B : Prop} (h : B) : if false = true then A else B := h
theorem r_nT {A B : Prop} (h : B) : if (!true) = true then A else B := h
theorem r_nF {A B : Prop} (h : A) : if (!false) = true then A else B := h
theorem r_iteNB {b : Bool} {A B : Prop} (h1 : b = false → A) (h2 : b = true → B) : if (!b) = true then A else B := by
  cases b with
  | true => exact h2 rfl
  | false => exact h1 rfl
end
theorem small {n : Nat} (h : n ≤ 1000000) : n ≤ sizeLine := by rw [sizeLine_eq]; omega
theorem lit (s : Str) : s = S s.cps.toList := by cases s; simp [S]


/-! ### comprehensions and loops -/
section
variable {σ : L2.St} {H H1 : Hp} {Q : VK} {D : Ends} {ta te tl : TE} {tb : TS} {tt : TT} {tA : TA} {j : Nat} {vs : List Nat} {K : PySem.W.Frag} {g : TG}
def LcP (J : It) (g : TG) (tt : TT) (te : TE) (vs : List Nat) (σ : L2.St) (H1 : Hp) (Q : VK) : Prop := ∀ D, H1 D = none → ∃ W : Nat → Nat → Hp → Prop, (∃ m, W 0 m (upd H1 D (.lst []))) ∧ ∀ i m H, W i m H →
      (J.stop i H ∧ Q (.ref D) H) ∨ (J.go i H ∧ ∃ Nx : Hp → Prop, (∀ H', Nx H' → ∃ m', m' < m ∧ W (i + 1) m' H') ∧ ∀ x H', J.yld i H x H' → g x (wipe σ vs) H' fun σ2 H2 => wipe σ2 vs = wipe σ vs ∧ tt σ2 H2 fun b H3 =>
        if b = true then te σ2 H3 fun y H4 => ∃ acc, H4 D = some (.lst acc) ∧ acc.length < sizeLine ∧ Nx (upd H4 D (.lst (acc ++ [y]))) else Nx H3)
def ForP (J : It) (g : TG) (tb : TS) (D : Ends) (σ : L2.St) (H1 : Hp) : Prop := ∃ W : Nat → Nat → L2.St → Hp → Prop, (∃ m, W 0 m σ H1) ∧ ∀ i m σ H, W i m σ H →
      (J.stop i H ∧ D.nx σ H) ∨ (J.go i H ∧ ∃ N : L2.St → Hp → Prop, (∀ σ' H', N σ' H' → ∃ m', m' < m ∧ W (i + 1) m' σ' H') ∧ ∀ x H', J.yld i H x H' → g x σ H' fun σ2 H2 => tb { D with nx := N, ct := N, bk := D.nx } σ2 H2)
theorem r_lcR1 (q : tA σ H fun xs H1 => ∃ n : Int, xs = [.int n] ∧ -(2 ^ 62) ≤ n ∧ n < 2 ^ 62 ∧ LcP (Itr 0 n.toNat) g tt te vs σ H1 Q) : tLc (iRng1 tA) g tt te vs σ H Q := q
theorem r_lcR2 (q : tA σ H fun xs H1 => ∃ i n : Int, xs = [.int i, .int n] ∧ (-(2 ^ 62) ≤ i ∧ i < 2 ^ 62 ∧ -(2 ^ 62) ≤ n ∧ n < 2 ^ 62) ∧ LcP (Itr i (n - i).toNat) g tt te vs σ H1 Q) : tLc (iRng2 tA) g tt te vs σ H Q := q
theorem r_lcL (q : tl σ H fun x H1 => ∃ a, x = .ref a ∧ (∃ xs, SqL K H1 a xs) ∧ LcP (Itl K a) g tt te vs σ H1 Q) : tLc (iList K tl) g tt te vs σ H Q := q
theorem r_lcT (q : tl σ H fun x H1 => ∃ a, x = .ref a ∧ (∃ xs, SqT K H1 a xs) ∧ LcP (Itt K a) g tt te vs σ H1 Q) : tLc (iTup K tl) g tt te vs σ H Q := q
theorem r_forR1 (q : tA σ H fun xs H1 => ∃ n : Int, xs = [.int n] ∧ -(2 ^ 62) ≤ n ∧ n < 2 ^ 62 ∧ ForP (Itr 0 n.toNat) g tb D σ H1) : tFor (iRng1 tA) g tb D σ H := q
theorem r_forR2 (q : tA σ H fun xs H1 => ∃ i n : Int, xs = [.int i, .int n] ∧ (-(2 ^ 62) ≤ i ∧ i < 2 ^ 62 ∧ -(2 ^ 62) ≤ n ∧ n < 2 ^ 62) ∧ ForP (Itr i (n - i).toNat) g tb D σ H1) : tFor (iRng2 tA) g tb D σ H := q
theorem r_forL (q : tl σ H fun x H1 => ∃ a, x = .ref a ∧ (∃ xs, SqL K H1 a xs) ∧ ForP (Itl K a) g tb D σ H1) : tFor (iList K tl) g tb D σ H := q
theorem r_forT (q : tl σ H fun x H1 => ∃ a, x = .ref a ∧ (∃ xs, SqT K H1 a xs) ∧ ForP (Itt K a) g tb D σ H1) : tFor (iTup K tl) g tb D σ H := q
theorem r_forS (q : tl σ H fun v H1 => ∃ x, v = .str x ∧ ForP (Its x) g tb D σ H1) : tFor (iStr tl) g tb D σ H := q
theorem r_forE (q : tA σ H fun xs H1 => ∃ l, xs = [.str (S l)] ∧ ForP (Iten (S l)) g tb D σ H1) : tFor (iEnumS tA) g tb D σ H := q
theorem r_rng1 {n : Int} {P : Int → Prop} (h : -1000000 ≤ n ∧ n ≤ 1000000) (q : P n) : ∃ m : Int, [V.int n] = [V.int m] ∧ -(2 ^ 62) ≤ m ∧ m < 2 ^ 62 ∧ P m := ⟨n, rfl, by omega, by omega, q⟩
theorem r_rng2 {i n : Int} {P : Int → Int → Prop} (h : -1000000 ≤ i ∧ i ≤ 1000000 ∧ -1000000 ≤ n ∧ n ≤ 1000000) (q : P i n) : ∃ k m : Int, [V.int i, V.int n] = [V.int k, V.int m] ∧ (-(2 ^ 62) ≤ k ∧ k < 2 ^ 62 ∧ -(2 ^ 62) ≤ m ∧ m < 2 ^ 62) ∧ P k m := ⟨i, n, rfl, ⟨by omega, by omega, by omega, by omega⟩, q⟩
theorem r_refL {a : Addr} {xs : List V} {P : Addr → Prop} (h : SqL K H a xs) (q : P a) : ∃ b, V.ref a = V.ref b ∧ (∃ xs, SqL K H b xs) ∧ P b := ⟨a, rfl, ⟨xs, h⟩, q⟩
theorem r_refT {a : Addr} {xs : List V} {P : Addr → Prop} (h : SqT K H a xs) (q : P a) : ∃ b, V.ref a = V.ref b ∧ (∃ xs, SqT K H b xs) ∧ P b := ⟨a, rfl, ⟨xs, h⟩, q⟩
theorem r_strE {l : List Nat} {P : List Nat → Prop} (q : P l) : ∃ m, [V.str (S l)] = [V.str (S m)] ∧ P m := ⟨l, rfl, q⟩

/-- behind i turns of a comprehension: acc made, the list at D -/
def LcI (J : Addr → Nat → List V → Hp → Prop) (D : Addr) (i : Nat) (H2 : Hp) : Prop := ∃ acc, H2 D = some (.lst acc) ∧ acc.length ≤ i ∧ J D i acc H2
theorem lc_end {J : Addr → Nat → List V → Hp → Prop} {D : Addr} {i : Nat} {acc : List V} {y : V} {H4 : Hp} (hi : i < 100000) (ha : acc.length ≤ i) (h : H4 D = some (.lst acc)) (k : J D (i + 1) (acc ++ [y]) (upd H4 D (.lst (acc ++ [y])))) :
    ∃ acc, H4 D = some (.lst acc) ∧ acc.length < sizeLine ∧ LcI J D (i + 1) (upd H4 D (.lst (acc ++ [y]))) :=
  ⟨acc, h, by rw [sizeLine_eq]; omega, acc ++ [y], upd_same, by rw [List.length_append, List.length_singleton]; omega, k⟩
theorem lc_skip {J : Addr → Nat → List V → Hp → Prop} {D : Addr} {i : Nat} {acc : List V} {H4 : Hp} (ha : acc.length ≤ i) (h : H4 D = some (.lst acc)) (k : J D (i + 1) acc H4) : LcI J D (i + 1) H4 := ⟨acc, h, by omega, k⟩
theorem lcR {lo : Int} {n : Nat} (J : Addr → Nat → List V → Hp → Prop) (hw : ∀ x, wipe ((wipe σ vs).set j (some x)) vs = wipe σ vs)
    (h0 : ∀ D, H1 D = none → J D 0 [] (upd H1 D (.lst [])))
    (hs : ∀ D i H2 acc, H1 D = none → i < n → H2 D = some (.lst acc) → acc.length ≤ i → J D i acc H2 → tt ((wipe σ vs).set j (some (.int (lo + i)))) H2 fun b H3 =>
      if b = true then te ((wipe σ vs).set j (some (.int (lo + i)))) H3 fun y H4 => ∃ acc, H4 D = some (.lst acc) ∧ acc.length < sizeLine ∧ LcI J D (i + 1) (upd H4 D (.lst (acc ++ [y]))) else LcI J D (i + 1) H3)
    (hd : ∀ D H2 acc, H1 D = none → H2 D = some (.lst acc) → J D n acc H2 → Q (.ref D) H2) : LcP (Itr lo n) (gName j) tt te vs σ H1 Q := fun D hD =>
  lc_range (LcI J D) ⟨[], upd_same, Nat.le_refl _, h0 D hD⟩
    (fun i H2 hi ⟨acc, h1, h2, h3⟩ => ⟨hw _, hs D i H2 acc hD hi h1 h2 h3⟩) (fun H2 ⟨acc, h1, h2, h3⟩ => hd D H2 acc hD h1 h3)
theorem lcL {a : Addr} {xs : List V} (J : Addr → Nat → List V → Hp → Prop) (hw : ∀ x, wipe ((wipe σ vs).set j (some x)) vs = wipe σ vs)
    (h0 : ∀ D, H1 D = none → J D 0 [] (upd H1 D (.lst []))) (hl : ∀ D i H2 acc, H1 D = none → J D i acc H2 → SqL K H2 a xs)
    (hs : ∀ D i x H2 acc, H1 D = none → xs[i]? = some x → H2 D = some (.lst acc) → acc.length ≤ i → J D i acc H2 → tt ((wipe σ vs).set j (some x)) H2 fun b H3 =>
      if b = true then te ((wipe σ vs).set j (some x)) H3 fun y H4 => ∃ acc, H4 D = some (.lst acc) ∧ acc.length < sizeLine ∧ LcI J D (i + 1) (upd H4 D (.lst (acc ++ [y]))) else LcI J D (i + 1) H3)
    (hd : ∀ D H2 acc, H1 D = none → H2 D = some (.lst acc) → J D xs.length acc H2 → Q (.ref D) H2) : LcP (Itl K a) (gName j) tt te vs σ H1 Q := fun D hD =>
  lc_list (xs := xs) (LcI J D) ⟨[], upd_same, Nat.le_refl _, h0 D hD⟩ (fun i H2 _ ⟨acc, _, _, h3⟩ => hl D i H2 acc hD h3)
    (fun i x H2 hi ⟨acc, h1, h2, h3⟩ => ⟨hw _, hs D i x H2 acc hD hi h1 h2 h3⟩) (fun H2 ⟨acc, h1, h2, h3⟩ => hd D H2 acc hD h1 h3)
theorem lcT {a : Addr} {xs : List V} (J : Addr → Nat → List V → Hp → Prop) (hw : ∀ x, wipe ((wipe σ vs).set j (some x)) vs = wipe σ vs)
    (h0 : ∀ D, H1 D = none → J D 0 [] (upd H1 D (.lst []))) (hl : ∀ D i H2 acc, H1 D = none → J D i acc H2 → SqT K H2 a xs)
    (hs : ∀ D i x H2 acc, H1 D = none → xs[i]? = some x → H2 D = some (.lst acc) → acc.length ≤ i → J D i acc H2 → tt ((wipe σ vs).set j (some x)) H2 fun b H3 =>
      if b = true then te ((wipe σ vs).set j (some x)) H3 fun y H4 => ∃ acc, H4 D = some (.lst acc) ∧ acc.length < sizeLine ∧ LcI J D (i + 1) (upd H4 D (.lst (acc ++ [y]))) else LcI J D (i + 1) H3)
    (hd : ∀ D H2 acc, H1 D = none → H2 D = some (.lst acc) → J D xs.length acc H2 → Q (.ref D) H2) : LcP (Itt K a) (gName j) tt te vs σ H1 Q := fun D hD =>
  lc_tup (xs := xs) (LcI J D) ⟨[], upd_same, Nat.le_refl _, h0 D hD⟩ (fun i H2 _ ⟨acc, _, _, h3⟩ => hl D i H2 acc hD h3)
    (fun i x H2 hi ⟨acc, h1, h2, h3⟩ => ⟨hw _, hs D i x H2 acc hD hi h1 h2 h3⟩) (fun H2 ⟨acc, h1, h2, h3⟩ => hd D H2 acc hD h1 h3)
/-- loops, by what holds behind i turns -/
theorem forR {lo : Int} {n : Nat} (J : Nat → L2.St → Hp → Prop) (h0 : J 0 σ H1)
    (hs : ∀ i σ H, i < n → J i σ H → g (.int (lo + i)) σ H fun σ2 H2 => tb { D with nx := J (i + 1), ct := J (i + 1), bk := D.nx } σ2 H2) (hd : ∀ σ H, J n σ H → D.nx σ H) : ForP (Itr lo n) g tb D σ H1 := for_range J h0 hs hd
theorem forL {a : Addr} {xs : List V} (J : Nat → L2.St → Hp → Prop) (h0 : J 0 σ H1) (hl : ∀ i σ H, i ≤ xs.length → J i σ H → SqL K H a xs)
    (hs : ∀ i x σ H, xs[i]? = some x → J i σ H → g x σ H fun σ2 H2 => tb { D with nx := J (i + 1), ct := J (i + 1), bk := D.nx } σ2 H2) (hd : ∀ σ H, J xs.length σ H → D.nx σ H) : ForP (Itl K a) g tb D σ H1 := for_list J h0 hl hs hd
theorem forT {a : Addr} {xs : List V} (J : Nat → L2.St → Hp → Prop) (h0 : J 0 σ H1) (hl : ∀ i σ H, i ≤ xs.length → J i σ H → SqT K H a xs)
    (hs : ∀ i x σ H, xs[i]? = some x → J i σ H → g x σ H fun σ2 H2 => tb { D with nx := J (i + 1), ct := J (i + 1), bk := D.nx } σ2 H2) (hd : ∀ σ H, J xs.length σ H → D.nx σ H) : ForP (Itt K a) g tb D σ H1 := for_tup J h0 hl hs hd
theorem forE {l : List Nat} (J : Nat → L2.St → Hp → Prop) (h0 : J 0 σ H1)
    (hs : ∀ i c σ H T, l[i]? = some c → J i σ H → H T = none → g (.ref T) σ (upd H T (.tup [.int (i : Nat), .str (S [c])])) fun σ2 H2 => tb { D with nx := J (i + 1), ct := J (i + 1), bk := D.nx } σ2 H2) (hd : ∀ σ H, J l.length σ H → D.nx σ H) : ForP (Iten (S l)) g tb D σ H1 := for_enumS J h0 hs hd
end
end Fg

set_option Elab.async false
set_option linter.all false
set_option maxRecDepth 100000
set_option maxHeartbeats 4000000
/-! isinstance of a caught error whose class has its own __init__ (its dict is there) -/
namespace PySem.W
open PySem PySem.Spec PySem.Calls PyProof.Rows
section
variable {prog : Program} {w : World} {A : Around} {E : Value → Shared → Prop} {s : Shared} {K : Frag} {x D : Addr} {ox oi : Obj}
theorem fg_class {Q : Option Value → Shared → Prop} (C : L2.ExcC K D) (X : K.In s.heap) (I : InstAt s.heap x ox D (some oi)) (h : Q (some (.ref D)) { s with toks := s.toks + 1 }) : wpAny (model prog w) A (getAttr? (.ref x) "__class__") Q E s := by
  have hf : findObj K D (some oi) "__class__" = some (.bind (.builtin "getset_descriptor.__get__") (.builtin "object.__class__")) := findObj_data (by obtain ⟨cd, e, _⟩ := any_some C.hd; rw [e]; rfl) C.ha C.hn C.ht
  obtain ⟨hp, g, dr, tk, os⟩ := s
  have ty := I.type (M := model prog w)
  have ge := looks_findIn (M := model prog w) X C.hg
  have ho := looks_findIn (M := model prog w) X C.hk
  have fi := looks_find (M := model prog w) X I hf
  have be : Looks (model prog w) hp (isInstance (.ref x) (.type "BaseException")) true := ty.andThen (looks_subIn X C.hs)
  have ne : (Value.builtin "BaseException.__getattribute__" == Value.builtin "object.__getattribute__") = false := by decide +kernel
  unfold getAttr? getAttrBy? getAttrBy
  refine wpAny_bind (wpAny_mkText (wpAny_bind (wpAny_attempt (wpAny_holding (wpAny_bind (ty.at (wpAny_bind (ge.at ?_))))))))
  show wpAny _ _ (if (onTheHeap (Value.ref D) && (Value.builtin "BaseException.__getattribute__" == Value.builtin "object.__getattribute__")) = true then _ else _) _ _ _
  rw [ne, Bool.and_false, if_neg Bool.false_ne_true]
  unfold getAttrByItsOwn hookBefore
  rw [if_pos (show onTheHeap (Value.ref D) = true from rfl)]
  refine wpAny_bind (ho.at (wpAny_bind (wpAny_attempt (wpAny_holding ?_))))
  unfold callGetattribute
  rw [show (false && onTheHeap (Value.builtin "BaseException.__getattribute__")) = false from rfl, if_neg Bool.false_ne_true]
  unfold boundAndCalled
  rw [PySem.F.excAttr_ValueError.ga.bind (.ref x)]
  refine wpAny_bind (wpAny_pure ?_)
  refine wpAny_call (codeAny_call_builtin PySem.F.excAttr_ValueError.ga.plain PySem.F.entry_bexc_ga (@check_slot (model prog w) _ _ ⟨hp, g, dr, tk + 1, os⟩ "BaseException.__getattribute__" "BaseException" "__getattribute__" (.ref x) [.str "__class__" tk] [] _ (by decide +kernel) (by decide +kernel) be (PySem.F.args_bexc_ga (.ref x) (.str "__class__" tk)) ?_))
  unfold Builtin.«object.__getattribute__»
  refine wpAny_bind (wpAny_of_eq (a := ((Value.ref x : Value), [Value.str "__class__" tk])) (by first | rfl | (simp only [slotArgs]; rfl)) (wpAny_bind (wpAny_pure (wpAny_bind (ty.at (wpAny_bind (fi.at ?_)))))))
  show wpAny _ _ (holding [Value.builtin "object.__class__"] (call (.builtin "getset_descriptor.__get__") [.builtin "object.__class__", .ref x, .ref D]) >>= ret) _ _ _
  refine wpAny_bind (wpAny_holding (wpAny_call (class_get (s := ⟨hp, g, dr, tk + 1, os⟩) (ox := ox) (od := some oi) X I C.hm ?_)))
  refine wpAny_pure ?_
  show wpAny _ _ (handedOut (.ref D)) _ _ _
  rw [handedOut_of (v := .ref D) rfl]
  first
    | exact wpAny_pure (wpAny_pure h)
    | exact wpAny_pure h
    | exact wpAny_pure (wpAny_bind (wpAny_pure (wpAny_pure h)))
theorem fg_kitx (C : L2.ExcC K D) : KitX K (.ref x) (.ref D) (fun h => InstAt h x ox D (some oi)) where
  ty := fun _ _ _ I => I.type
  it := fun _ _ X _ => by
    obtain ⟨cd, hc, _⟩ := any_some C.hd
    unfold clsIn at hc
    split at hc
    · rename_i ho
      intro A' Q' E' s' k q
      unfold isType loadHead
      exact wpAny_bind (wpAny_loadPart (k _ _ (X _ _ ho)) (wpAny_pure q))
    · cases hc
  ne := fun h tp dd its n sl X htp => by
    obtain ⟨cd, hc, _⟩ := any_some C.hd
    refine Bool.eq_false_iff.mpr fun q => ?_
    have e : D = tp := Value.ref.inj (beq_iff_eq.mp q)
    subst e
    unfold clsIn at hc
    split at hc
    · rename_i ho
      have z := (X _ _ ho).symm.trans htp
      cases z
    · cases hc
  ca := fun X I k => fg_class C X I k
end
end PySem.W
namespace Fg
open PySem PySem.Spec PyProof.Rows L2
/-- isinstance(e, c), e the exception that the suite holds at a, of the class cls, its dict d -/
def rIsX (K : PySem.W.Frag) (a : Addr) (cls : Value) (d : Option Addr) : List V → Hp → VK → Prop := fun xs H Q => ∃ (D : Addr) (c : V) (cv : Value) (b : Bool) (dd : Addr) (fs : List (Str × V)), xs = [.ref a, c] ∧ (∀ u, RelV c u → u = cv) ∧ cls = .ref D ∧ ExcC K D ∧ PySem.W.kitOne K (.ref D) cv = some b ∧
  d = some dd ∧ H dd = some (.xd fs) ∧ Q (.bl b) H
theorem call_isX {X : Cx} {a : Addr} {cls : Value} {d : Option Addr} {oe : Obj} {pn : List (Addr × Obj)} (hz : Zc cls d oe) (hf : ∃ vs, oe.data = .fields vs) : CallR (X.suite a ((a, oe) :: pn)) (.builtin "isinstance") (rIsX X.K a cls d) := by
  intro pins s σ H xs us Q I r h
  obtain ⟨D, c, cv, b, dd, fs, rfl, hcv, rfl, C, e, rfl, hdd, q⟩ := h
  cases r with
  | cons rx rr =>
    cases rr with
    | cons rt rr =>
      cases rr
      cases rx
      have ec := hcv _ rt
      subst ec
      obtain ⟨hget, _⟩ := I.pin (a, oe) (List.mem_append.mpr (.inl List.mem_cons_self))
      obtain ⟨vs, hv⟩ := hf
      have hx : ObjOk X.prog X.w H s.heap dd (.xd fs) := I.hok dd _ hdd
      obtain ⟨mA, hns, hr⟩ := hx
      obtain ⟨od, ho, hl⟩ := lookIn_ns hns
      have J : PySem.W.InstAt s.heap a oe D (some od) := ⟨hget, hz.1, by unfold PySem.W.notCls; rw [hv] <;> rfl, by rw [hz.2]; exact ho⟩
      exact PySem.W.kia_one (PySem.W.fg_kitx C) I.kIn J e (fun z => nomatch z) fun tk => ⟨.bl b, H, I.kept (t' := tk) fun _ _ z => z, rfl, q⟩

/-! ### errors with one field -/
def spInit (C : Addr) (fld : Str) : Sp := fun vs H Q _ => ∃ (a : Addr) (v : V), vs = [.ref a, v] ∧ H a = some (exo a C none) ∧ ∀ dx, H dx = none → dx ≠ a → Q .non (upd (upd H dx (exd dx [(fld, v)])) a (exo a C (some dx)))
structure Err (P : Program) (w : World) (K : PySem.W.Frag) (mg : Str → Option Value) (base : Heap) (x : Str) (C : Addr) (fld : Str) : Prop where
  g : mg x = some (.ref C)
  o : OexC K C
  xf : XfC K C
  xc : ExcC K C
  noN : PySem.W.findIn K (.ref C) fld = some none
  ini : ∃ (fI : Addr) (fd : FuncData) (ps : List Str), PySem.W.findIn K (.ref C) "__init__" = some (some (.ref fI)) ∧ PySem.W.typeIn K (.ref fI) = some (.type "function") ∧ FnOk P w K mg base L2.CX0 1 fI fd ps (spInit C fld) ∧ Binds K fd ps []
section
variable {X : Cx} {x : Str} {C : Addr} {fld : Str} {j : Nat} {e : Expr} {es : List Expr} {ta : TA} {p pos : Pos}
theorem pmk_err (E : Err X.prog X.w X.K X.mg X.base x C fld) (hr : Room j X.A) (hj : 2 ≤ j) (hg : Gl X x) (ha : PA X (e :: es) ta)
    (hdb : (x == ("__debug__" : Str)) = false := by decide) (he : starEach (e :: es) X.env = (false, eval e X.env) :: starEach es X.env := by rfl) (hpl : (backTo pos (starEach es X.env)).any (·.1) = false := by rfl) :
    PMk X (.Call (.Name x p) (e :: es) [] pos) (tMkO C (spInit C fld) [] ta) := by
  obtain ⟨fI, fd, ps, iC, tI, F, b⟩ := E.ini
  exact pmk_oex E.o iC tI F (hr.mono hj) b .nil L2.pass0 hg E.g ha hdb he hpl
end
theorem r_mko {σ : L2.St} {H : Hp} {ta : TA} {C : Addr} {fld : Str} {Q : XK} (q : ta σ H fun vs H1 => vs.length ≤ 1000 ∧ ∀ a, H1 a = none → spInit C fld (.ref a :: (vs ++ [])) (upd H1 a (exo a C none))
  (fun v H2 => v = .non ∧ ∃ (d : Addr) (fs : List (Str × V)), H2 a = some (exo a C (some d)) ∧ H2 d = some (exd d fs) ∧ H1 d = none ∧ Q (.ref C) (some d) (upd (del H2 a) d (.xd fs))) (fun _ _ _ => False)) : tMkO C (spInit C fld) [] ta σ H Q := q
/-- what is raised: the error of this class, whose dict is new -/
def Wish (C : Addr) (fld : Str) (v : V) (H : Hp) (E : XK) : Prop := ∀ d H', H d = none → Ex H H' → H' d = some (.xd [(fld, v)]) → E (.ref C) (some d) H'
theorem Wish.ex {C : Addr} {fld : Str} {v : V} {H H1 : Hp} {E : XK} (w : Wish C fld v H E) (e : Ex H H1) : Wish C fld v H1 E := fun d H' hd ex h => w d H' (Evl.fresh_back e hd) (e.trans ex) h
theorem r_mk {H1 : Hp} {C : Addr} {fld : Str} {v : V} {Q : XK} (q : Wish C fld v H1 Q) : [v].length ≤ 1000 ∧ ∀ a, H1 a = none → spInit C fld (.ref a :: ([v] ++ [])) (upd H1 a (exo a C none))
  (fun u H2 => u = .non ∧ ∃ (d : Addr) (fs : List (Str × V)), H2 a = some (exo a C (some d)) ∧ H2 d = some (exd d fs) ∧ H1 d = none ∧ Q (.ref C) (some d) (upd (del H2 a) d (.xd fs))) (fun _ _ _ => False) := by
  refine ⟨by show 1 ≤ 1000; decide, fun a ha => ⟨a, v, rfl, upd_same, fun dx hd ne => ⟨rfl, dx, [(fld, v)], upd_same, ?_, ?_, ?_⟩⟩⟩
  · rw [upd_ne ne, upd_same]
  · rw [upd_ne ne] at hd
    exact hd
  · rw [upd_ne ne] at hd
    refine q dx _ hd (fun b o hb => ?_) upd_same
    have n1 : b ≠ dx := ne_of_none hb hd
    have n2 : b ≠ a := ne_of_none hb ha
    rw [upd_ne n1, del_ne n2, upd_ne n2, upd_ne n1, upd_ne n2]
    exact hb
theorem r_xf {σ : L2.St} {H : Hp} {Q : VK} {a C : Addr} {cls : Value} {d : Option Addr} {fld : Str} {te : TE} (q : te σ H fun x H1 => x = .ref a ∧ cls = .ref C ∧ ∃ (dd : Addr) (fs : List (Str × V)) (v : V), d = some dd ∧ H1 dd = some (.xd fs) ∧ fs.lookup fld = some v ∧ Q v H1) : tXf a cls d C fld te σ H Q := q
theorem op_eqK {X : Cx} {K : PySem.W.Frag} {k : Nat} {A : Around} (hr : Room k A) (e : X.K = K := by rfl) (e2 : X.A.units = A.units := by rfl) : OpR X (compareOp .Eq) (rEqD K) := by
  rw [← e]; exact op_eqD (by rw [e2]; exact hu64 hr)
theorem r_wAs {K : PySem.W.Frag} {c : Value} {i : Nat} {ts : Addr → Value → Option Addr → TS} {Wout : WX} {D : Ends} {cls : Value} {d : Option Addr} {σ : L2.St} {H : Hp} (k : PySem.W.exmOne K cls c = some true)
    (q : ∀ a, H a = none → ts a cls d { nx := fun σ' H' => D.nx (σ'.set i none) H', rt := D.rt, bk := fun σ' H' => D.bk (σ'.set i none) H', ct := fun σ' H' => D.ct (σ'.set i none) H' } (σ.set i (some (.ref a))) H) : WE (wAs K c i ts Wout D) σ cls d H :=
  ⟨true, k, fun _ => q, fun z => nomatch z⟩
/-- a pair unpacked into two names -/
theorem r_gtup2 {K : PySem.W.Frag} {σ : L2.St} {H : Hp} {a : Addr} {i j : Nat} {x y : V} {Q : L2.St → Hp → Prop} (h : SqT K H a [x, y]) (q : Q ((σ.set i (some x)).set j (some y)) H) : gTup K 2 (gCons (gName i) (gCons (gName j) gNil)) (.ref a) σ H Q :=
  ⟨a, [x, y], rfl, h, rfl, x, [y], rfl, y, [], rfl, rfl, q⟩
end Fg

set_option Elab.async false
set_option linter.all false
set_option maxRecDepth 100000
set_option maxHeartbeats 4000000
namespace Fg
open PySem PySem.Spec PyProof.Rows L2
/-! ### what the top has written -/
section
variable {K : PySem.W.Frag} {h : Heap} {mg : Str → Option Value}
theorem defd_mk {x : Str} {st : Stmt} {ps : List Str} {f : Addr} {oc : Value} {od an : Option Addr} {osl : Array (Option Value)} {kV doc pm cdv ct : Value} (X : K.In h) (G : h.Ns mainGlobals mg)
    (a : PySem.W.nsIn K mainGlobals x = some (some (.ref f)))
    (l : K.lookup f = some ⟨oc, od, .func (PySem.W.fnOf x x (defArgs st) (defBody st) (defScope st) .none kV doc pm an cdv ct), osl⟩)
    (c : PySem.W.codeIn K cdv x = true) (k : PySem.W.keepIn K (.ref f) = true)
    (b : ∀ (kV doc pm : Value) (an : Option Addr) (cdv ct : Value) (us : List Value), us.length = ps.length → bindArgs (PySem.W.fnOf x x (defArgs st) (defBody st) (defScope st) .none kV doc pm an cdv ct) ⟨us, []⟩ = pure (ps.zip us)) : Defd K mg x st ps :=
  ⟨f, _, fun_mk l c k, PySem.W.mg_of X G a, (fun_mk l c k).binds b⟩
theorem lawd_mk {x p : Str} {st : Stmt} {f : Addr} {oc : Value} {od an : Option Addr} {osl : Array (Option Value)} {kV doc pm cdv ct : Value} (X : K.In h) (G : h.Ns mainGlobals mg)
    (a : PySem.W.nsIn K mainGlobals x = some (some (.ref f)))
    (l : K.lookup f = some ⟨oc, od, .func (PySem.W.fnOf x x (defArgs st) (defBody st) (defScope st) .none kV doc pm an cdv ct), osl⟩)
    (c : PySem.W.codeIn K cdv x = true) (k : PySem.W.keepIn K (.ref f) = true)
    (b : ∀ (kV doc pm : Value) (an : Option Addr) (cdv ct : Value) (us : List Value), us.length = [p].length → bindArgs (PySem.W.fnOf x x (defArgs st) (defBody st) (defScope st) .none kV doc pm an cdv ct) ⟨us, []⟩ = pure ([p].zip us)) :
    ∃ (f : Addr) (fd : FuncData), (∀ (s : Shared) (u : Value), BindsTo s fd ⟨[u], []⟩ [(p, u)]) ∧ Fun K x x st f fd ∧ mg x = some (.ref f) :=
  ⟨f, _, fun s u => .of_eq (b _ _ _ _ _ _ [u] rfl), fun_mk l c k, PySem.W.mg_of X G a⟩
theorem const_mk {x : Str} {v : Value} {y : V} (X : K.In h) (G : h.Ns mainGlobals mg) (a : PySem.W.nsIn K mainGlobals x = some (some v)) (e : RelV y v) : ∃ u, mg x = some u ∧ RelV y u := ⟨v, PySem.W.mg_of X G a, e⟩
theorem bi_mk (X : K.In h) (G : h.Ns mainGlobals mg) (z0 : PySem.W.nsIn K mainGlobals "len" = some none) (z1 : PySem.W.nsIn K mainGlobals "int" = some none) (z2 : PySem.W.nsIn K mainGlobals "str" = some none) (z3 : PySem.W.nsIn K mainGlobals "bool" = some none) (z4 : PySem.W.nsIn K mainGlobals "list" = some none) (z5 : PySem.W.nsIn K mainGlobals "tuple" = some none) (z6 : PySem.W.nsIn K mainGlobals "sum" = some none) (z7 : PySem.W.nsIn K mainGlobals "abs" = some none) (z8 : PySem.W.nsIn K mainGlobals "min" = some none) (z9 : PySem.W.nsIn K mainGlobals "max" = some none) (z10 : PySem.W.nsIn K mainGlobals "sorted" = some none) (z11 : PySem.W.nsIn K mainGlobals "all" = some none) (z12 : PySem.W.nsIn K mainGlobals "any" = some none) (z13 : PySem.W.nsIn K mainGlobals "isinstance" = some none) (z14 : PySem.W.nsIn K mainGlobals "range" = some none) (z15 : PySem.W.nsIn K mainGlobals "enumerate" = some none) (z16 : PySem.W.nsIn K mainGlobals "zip" = some none) (z17 : PySem.W.nsIn K mainGlobals "ValueError" = some none) : Bi mg :=
  ⟨PySem.W.mg_none_of X G z0, PySem.W.mg_none_of X G z1, PySem.W.mg_none_of X G z2, PySem.W.mg_none_of X G z3, PySem.W.mg_none_of X G z4, PySem.W.mg_none_of X G z5, PySem.W.mg_none_of X G z6, PySem.W.mg_none_of X G z7, PySem.W.mg_none_of X G z8, PySem.W.mg_none_of X G z9, PySem.W.mg_none_of X G z10, PySem.W.mg_none_of X G z11, PySem.W.mg_none_of X G z12, PySem.W.mg_none_of X G z13, PySem.W.mg_none_of X G z14, PySem.W.mg_none_of X G z15, PySem.W.mg_none_of X G z16, PySem.W.mg_none_of X G z17⟩
/-- what the written part says of a class of errors with its own __init__ -/
structure ErrC (K : PySem.W.Frag) (x qual fld : Str) (st : Stmt) (ps : List Str) (C : Addr) : Prop where
  ns : PySem.W.nsIn K mainGlobals x = some (some (.ref C))
  o : OexC K C
  xf : XfC K C
  xc : ExcC K C
  noN : PySem.W.findIn K (.ref C) fld = some none
  ini : ∃ (fI : Addr) (fd : FuncData), PySem.W.findIn K (.ref C) "__init__" = some (some (.ref fI)) ∧ PySem.W.typeIn K (.ref fI) = some (.type "function") ∧ Fun K "__init__" qual st fI fd ∧ Binds K fd ps []
theorem err_mk {P : Program} {w : World} {base : Heap} {x qual fld : Str} {st : Stmt} {ps : List Str} {C : Addr} (X : K.In h) (G : h.Ns mainGlobals mg) (e : ErrC K x qual fld st ps C)
    (F : ∀ fI fd, Fun K "__init__" qual st fI fd → FnOk P w K mg base L2.CX0 1 fI fd ps (spInit C fld)) : Err P w K mg base x C fld := by
  obtain ⟨fI, fd, h1, h2, h3, h4⟩ := e.ini
  exact ⟨PySem.W.mg_of X G e.ns, e.o, e.xf, e.xc, e.noN, fI, fd, ps, h1, h2, F fI fd h3, h4⟩
theorem defd_do {R : Prop} (X : K.In h) (G : h.Ns mainGlobals mg) (x : Str) (st : Stmt) (ps : List Str) {f : Addr} {oc : Value} {od an : Option Addr} {osl : Array (Option Value)} {kV doc pm cdv ct : Value}
    (a : PySem.W.nsIn K mainGlobals x = some (some (.ref f)))
    (l : K.lookup f = some ⟨oc, od, .func (PySem.W.fnOf x x (defArgs st) (defBody st) (defScope st) .none kV doc pm an cdv ct), osl⟩)
    (c : PySem.W.codeIn K cdv x = true) (k : PySem.W.keepIn K (.ref f) = true)
    (b : ∀ (kV doc pm : Value) (an : Option Addr) (cdv ct : Value) (us : List Value), us.length = ps.length → bindArgs (PySem.W.fnOf x x (defArgs st) (defBody st) (defScope st) .none kV doc pm an cdv ct) ⟨us, []⟩ = pure (ps.zip us))
    (n : Defd K mg x st ps → R) : R := n (defd_mk X G a l c k b)
theorem lawd_do {R : Prop} (X : K.In h) (G : h.Ns mainGlobals mg) (x : Str) (st : Stmt) (p : Str) {f : Addr} {oc : Value} {od an : Option Addr} {osl : Array (Option Value)} {kV doc pm cdv ct : Value}
    (a : PySem.W.nsIn K mainGlobals x = some (some (.ref f)))
    (l : K.lookup f = some ⟨oc, od, .func (PySem.W.fnOf x x (defArgs st) (defBody st) (defScope st) .none kV doc pm an cdv ct), osl⟩)
    (c : PySem.W.codeIn K cdv x = true) (k : PySem.W.keepIn K (.ref f) = true)
    (b : ∀ (kV doc pm : Value) (an : Option Addr) (cdv ct : Value) (us : List Value), us.length = [p].length → bindArgs (PySem.W.fnOf x x (defArgs st) (defBody st) (defScope st) .none kV doc pm an cdv ct) ⟨us, []⟩ = pure ([p].zip us))
    (n : ∀ (f : Addr) (fd : FuncData), (∀ (s : Shared) (u : Value), BindsTo s fd ⟨[u], []⟩ [(p, u)]) → Fun K x x st f fd → mg x = some (.ref f) → R) : R := by
  obtain ⟨f, fd, h1, h2, h3⟩ := lawd_mk X G a l c k b
  exact n f fd h1 h2 h3
theorem errc_do {R : Prop} (X : K.In h) (x qual fld : Str) (st : Stmt) (ps : List Str) {nm q : Str} {C f N : Addr} {bs bm sub : List Value} {sn : List Str} {ab : Bool} {col : Option Bool} {dd : Option Addr} {k0 k1 k2 k3 k5 : Option Value} {oc : Value} {od an : Option Addr} {osl : Array (Option Value)} {kV doc pm cdv ct : Value}
    (a1 : PySem.W.nsIn K mainGlobals x = some (some (.ref C)))
    (a2 : K.lookup C = some (excClassObj nm q C N bs bm true sn sub ab col dd k0 k1 k2 k3 k5 "ValueError.__new__"))
    (a4 : PySem.W.findIn K (.ref C) "__setattr__" = some (some (.builtin "object.__setattr__")))
    (a5 : PySem.W.subIn K (.ref C) (.type "BaseException") = some true) (a6 : PySem.W.typeIn K (.ref C) = some (.type "type")) (a7 : PySem.W.keepIn K (.ref C) = true)
    (a8 : PySem.W.findIn K (.ref C) "__getattribute__" = some (some (.builtin "BaseException.__getattribute__"))) (a9 : PySem.W.findIn K (.ref C) "__getattr__" = some none)
    (b1 : PySem.W.hasDictIn K C = true) (b2 : PySem.W.findIn K (.ref C) "__class__" = some (some (.builtin "object.__class__")))
    (b3 : PySem.W.specialIn K (.builtin "object.__class__") "__get__" = some (some (.builtin "getset_descriptor.__get__"))) (b4 : PySem.W.takesIn K (.builtin "object.__class__") = some true)
    (b5 : PySem.W.mroIn K C (.type "object") = some true) (b6 : PySem.W.findIn K (.ref C) fld = some none)
    (b7 : PySem.W.findIn K (.ref C) "__init__" = some (some (.ref f))) (b8 : PySem.W.typeIn K (.ref f) = some (.type "function"))
    (b9 : K.lookup f = some ⟨oc, od, .func (PySem.W.fnOf "__init__" qual (defArgs st) (defBody st) (defScope st) .none kV doc pm an cdv ct), osl⟩)
    (c1 : PySem.W.codeIn K cdv qual = true) (c2 : PySem.W.keepIn K (.ref f) = true)
    (b : ∀ (kV doc pm : Value) (an : Option Addr) (cdv ct : Value) (us : List Value), us.length = ps.length → bindArgs (PySem.W.fnOf "__init__" qual (defArgs st) (defBody st) (defScope st) .none kV doc pm an cdv ct) ⟨us, []⟩ = pure (ps.zip us))
    (a3 : PySem.HandSPX.refsVE bm = true) (n : ErrC K x qual fld st ps C → R) : R := by
  refine n ⟨a1, ⟨⟨nm, q, N, bs, bm, sn, sub, ab, col, dd, k0, k1, k2, k3, k5, a2, a3⟩, a4, a5, a6, a7⟩, ⟨a8, a9, a5, b1⟩, ⟨a8, a9, a5, b1, b2, b3, b4, b5⟩, b6, f, _, b7, b8, fun_mk b9 c1 c2, (fun_mk b9 c1 c2).binds b⟩
theorem bi_do {R : Prop} (X : K.In h) (G : h.Ns mainGlobals mg) (z0 : PySem.W.nsIn K mainGlobals "len" = some none) (z1 : PySem.W.nsIn K mainGlobals "int" = some none) (z2 : PySem.W.nsIn K mainGlobals "str" = some none) (z3 : PySem.W.nsIn K mainGlobals "bool" = some none) (z4 : PySem.W.nsIn K mainGlobals "list" = some none) (z5 : PySem.W.nsIn K mainGlobals "tuple" = some none) (z6 : PySem.W.nsIn K mainGlobals "sum" = some none) (z7 : PySem.W.nsIn K mainGlobals "abs" = some none) (z8 : PySem.W.nsIn K mainGlobals "min" = some none) (z9 : PySem.W.nsIn K mainGlobals "max" = some none) (z10 : PySem.W.nsIn K mainGlobals "sorted" = some none) (z11 : PySem.W.nsIn K mainGlobals "all" = some none) (z12 : PySem.W.nsIn K mainGlobals "any" = some none) (z13 : PySem.W.nsIn K mainGlobals "isinstance" = some none) (z14 : PySem.W.nsIn K mainGlobals "range" = some none) (z15 : PySem.W.nsIn K mainGlobals "enumerate" = some none) (z16 : PySem.W.nsIn K mainGlobals "zip" = some none) (z17 : PySem.W.nsIn K mainGlobals "ValueError" = some none) (n : Bi mg → R) : R := n (bi_mk X G z0 z1 z2 z3 z4 z5 z6 z7 z8 z9 z10 z11 z12 z13 z14 z15 z16 z17)
theorem glob_do {R : Prop} (X : K.In h) (G : h.Ns mainGlobals mg) (x : Str) {v : Value} (a : PySem.W.nsIn K mainGlobals x = some (some v)) (n : mg x = some v → R) : R := n (PySem.W.mg_of X G a)
end
theorem exm_mk {K : PySem.W.Frag} {C S : Addr} (h1 : PySem.W.subIn K (.ref S) (.type "BaseException") = some true) (h2 : PySem.W.isClsIn K S = true) (h3 : PySem.W.typeIn K (.ref S) = some (.type "type")) (h4 : PySem.W.subIn K (.ref C) (.ref S) = some true) :
    PySem.W.exmOne K (.ref C) (.ref S) = some true := by
  have e1 : (PySem.W.subIn K (.ref S) (.type "BaseException") == some true) = true := by rw [h1] <;> rfl
  have e2 : ((PySem.W.clsIn K S).isSome && PySem.W.typeIn K (.ref S) == some (.type "type")) = true := by
    have h2' : (PySem.W.clsIn K S).isSome = true := h2
    rw [h2', h3] <;> rfl
  show (if (PySem.W.subIn K (.ref S) (.type "BaseException") == some true) = true then (if ((PySem.W.clsIn K S).isSome && PySem.W.typeIn K (.ref S) == some (.type "type")) = true then PySem.W.subIn K (.ref C) (.ref S) else none) else none) = some true
  rw [if_pos e1, if_pos e2]
  exact h4
theorem r_ost {K : PySem.W.Frag} {σ : L2.St} {H : Hp} {D : Ends} {a C : Addr} {fld : Str} {i j : Nat} {v : V} (hi : σ[i]? = some (some (.ref a))) (hj : σ[j]? = some (some v)) (o : OexC K C) (n : PySem.W.findIn K (.ref C) fld = some none) (h : H a = some (exo a C none))
    (q : ∀ dx, H dx = none → dx ≠ a → D.nx σ (upd (upd H dx (exd dx [(fld, v)])) a (exo a C (some dx)))) : tOst K fld (tVar i) (tVar j) D σ H :=
  ⟨v, hj, .ref a, hi, a, C, rfl, o, n, .inl ⟨h, q⟩⟩
end Fg

set_option Elab.async false
set_option linter.all false
set_option maxRecDepth 100000
set_option maxHeartbeats 4000000
namespace Fg
open PySem PySem.Spec PyProof.Rows L2
/-! ### lcm, int(digits) -/
def rLcm : List V → Hp → VK → Prop := fun vs H Q => ∃ a b : Nat, vs = [.int (a : Int), .int (b : Int)] ∧ a < 2 ^ 13000 ∧ b < 2 ^ 13000 ∧ Q (.int ((Nat.lcm a b : Nat) : Int)) H
theorem log_lt {n k : Nat} (h : n < 2 ^ k) (hk : 0 < k) : n.log2 < k := by
  by_cases h0 : n = 0
  · subst h0; rw [Nat.log2_zero]; exact hk
  · exact (Nat.log2_lt h0).mpr h
theorem cr_lcm {X : Cx} : CallR X (.builtin "math.lcm") rLcm := by
  intro pins s σ H vs us Q I r h
  obtain ⟨a, b, rfl, ha, hb, q⟩ := h
  obtain ⟨t, u, rfl⟩ := Vals.int2 r
  have e1 : Nat.lcm 1 ((a : Int)).natAbs = a := by rw [Int.natAbs_natCast, Nat.lcm_one_left]
  have l1 : a.log2 < 13000 := log_lt ha (by decide)
  have l2 : b.log2 < 13000 := log_lt hb (by decide)
  have hm : ∀ x y : Nat, x.log2 < 13000 → y.log2 < 13000 → ¬ (max x y).log2 / 30 + 1 > 450 := by
    intro x y hx hy
    rcases Nat.le_total x y with z | z
    · rw [Nat.max_eq_right z]; omega
    · rw [Nat.max_eq_left z]; omega
  have hl : (Nat.lcm a b).log2 < bitsLine := by
    have h1 : Nat.lcm a b ≤ a * b := by
      by_cases hz : a * b = 0
      · rcases Nat.mul_eq_zero.mp hz with z | z <;> subst z <;> simp
      · exact Nat.le_of_dvd (Nat.pos_of_ne_zero hz) (Nat.lcm_dvd_mul a b)
    have h2 : a * b < 2 ^ 26000 := by
      have := Nat.mul_lt_mul'' ha hb
      rwa [← Nat.pow_add] at this
    exact Nat.lt_of_lt_of_le (log_lt (Nat.lt_of_le_of_lt h1 h2) (by decide)) (by decide)
  have g := PySem.W.mg_run_lcm (a : Int) t (b : Int) u (by rw [Int.natAbs_natCast]; exact hm 1 a (by decide) l1) (by rw [Int.natAbs_natCast, Int.natAbs_natCast]; exact hm a b l1 l2) (by rw [e1, Int.natAbs_natCast, Int.natAbs_natCast]; exact hl)
  rw [e1, Int.natAbs_natCast] at g
  exact PySem.call_function_meets PySem.W.MGF.kind_lcm PySem.W.MGF.plain_lcm PySem.W.MGF.entry_lcm (PySem.W.MGF.args_lcm _ _) g.meets ⟨.int _, H, I.tok _, ⟨_, rfl⟩, q⟩
def dval (l : List Nat) : Nat := l.foldl (fun a c => 10 * a + (c - 48)) 0
theorem dig3 : ∀ a b c : Fin 10, PySem.intText? (S [48 + a.val, 48 + b.val, 48 + c.val]) = some ((100 * a.val + 10 * b.val + c.val : Nat) : Int) := by decide +kernel
theorem dig2 : ∀ a b : Fin 10, PySem.intText? (S [48 + a.val, 48 + b.val]) = some ((10 * a.val + b.val : Nat) : Int) := by decide +kernel
theorem dig1 : ∀ a : Fin 10, PySem.intText? (S [48 + a.val]) = some ((a.val : Nat) : Int) := by decide +kernel
def isDig (c : Nat) : Bool := decide (48 ≤ c ∧ c ≤ 57)
theorem dig_of {c : Nat} (h : isDig c = true) : ∃ a : Fin 10, c = 48 + a.val := by
  have h := of_decide_eq_true h
  exact ⟨⟨c - 48, by omega⟩, by show c = 48 + (c - 48); omega⟩
theorem int_digits {l : List Nat} (h1 : l ≠ []) (h3 : l.length ≤ 3) (hd : ∀ c ∈ l, isDig c = true) : PySem.intText? (S l) = some ((dval l : Nat) : Int) := by
  match l, h1, h3, hd with
  | [a], _, _, hd =>
    obtain ⟨x, rfl⟩ := dig_of (hd a (by simp))
    rw [dig1 x]
    congr 2
    show x.val = 10 * 0 + (48 + x.val - 48)
    omega
  | [a, b], _, _, hd =>
    obtain ⟨x, rfl⟩ := dig_of (hd a (by simp))
    obtain ⟨y, rfl⟩ := dig_of (hd b (by simp))
    rw [dig2 x y]
    congr 2
    show 10 * x.val + y.val = 10 * (10 * 0 + (48 + x.val - 48)) + (48 + y.val - 48)
    omega
  | [a, b, c], _, _, hd =>
    obtain ⟨x, rfl⟩ := dig_of (hd a (by simp))
    obtain ⟨y, rfl⟩ := dig_of (hd b (by simp))
    obtain ⟨z, rfl⟩ := dig_of (hd c (by simp))
    rw [dig3 x y z]
    congr 2
    show 100 * x.val + 10 * y.val + z.val = 10 * (10 * (10 * 0 + (48 + x.val - 48)) + (48 + y.val - 48)) + (48 + z.val - 48)
    omega
  | _ :: _ :: _ :: _ :: _, _, h3, _ => exact absurd h3 (by simp)
end Fg

set_option Elab.async false
set_option linter.all false
set_option maxRecDepth 100000
set_option maxHeartbeats 4000000
namespace Rt
open Fg
/-! ### rhythm texts as they are read: what is left, beats, row; an error: how much is left there -/
abbrev Got := List Nat × Nat × List Nat
abbrev Res := Except Nat Got
def isSg (c : Nat) : Bool := decide (c = 46 ∨ c = 103 ∨ c = 114 ∨ c = 119)
def kept (b : Nat) (r : List Nat) : List Nat := if b ≤ 24 then r else []
def dsOf (s : List Nat) : List Nat := s.takeWhile isDig
def rsOf (s : List Nat) : List Nat := s.dropWhile isDig
def rep (t : Nat) (r : List Nat) : List Nat := (List.replicate t r).flatten
def grp (inner : Option (List Nat → Res)) (t : Nat) (r : List Nat) : Res := match inner with
  | none => .error (r.length + 1)
  | some f => match f r with
    | .error e => .error e
    | .ok (r2, b, row) => .ok (r2.drop 1, t * b, kept (t * b) (rep t row))
def rdItem (inner : Option (List Nat → Res)) (s : List Nat) : Res :=
  match dsOf s with
  | [] => .ok (s.drop 1, 1, s.take 1)
  | d :: ds =>
    if d = 48 then .error s.length
    else match rsOf s with
      | [] => .error 0
      | c :: r =>
        if isSg c = true then (if 2 ≤ dval ((d :: ds).take 3) ∧ dval ((d :: ds).take 3) ≤ 24 then .ok (r, dval ((d :: ds).take 3), List.replicate (dval ((d :: ds).take 3)) c) else .error s.length)
        else if c = 40 then
          (if 2 ≤ dval ((d :: ds).take 3) ∧ dval ((d :: ds).take 3) ≤ 24 then
            grp inner (dval ((d :: ds).take 3)) r
          else .error s.length)
        else .error (r.length + 1)
def goes (s : List Nat) : Bool := match s with
  | [] => false
  | c :: _ => isSg c || isDig c
def rdItems (item : List Nat → Res) : Nat → List Nat → Nat → List Nat → Res
  | 0, s, b, r => .ok (s, b, r)
  | n + 1, s, b, r => if goes s = true then
      match item s with
      | .error e => .error e
      | .ok (s2, m, g) => rdItems item n s2 (b + m) (kept (b + m) (r ++ g))
    else .ok (s, b, r)
def rdWhole (s : List Nat) (b : Nat) (row : List Nat) : Res := match dsOf s with
  | [] => .error s.length
  | d :: ds => if d = 48 then .error s.length else
    if b ≤ dval ((d :: ds).take 3) ∧ dval ((d :: ds).take 3) ≤ 24 then .ok (rsOf s, dval ((d :: ds).take 3), row ++ List.replicate (dval ((d :: ds).take 3) - b) 46) else .error s.length
def rdPart (item : List Nat → Res) (s : List Nat) : Res := match rdItems item s.length s 0 [] with
  | .error e => .error e
  | .ok (s2, b, r) => if b = 0 then .error s2.length else
    match s2 with
    | [] => .ok (s2, b, r)
    | c :: s3 => if c = 64 then rdWhole s3 b r else .ok (s2, b, r)
def tog (b : Nat) (r : List Nat) (b2 : Nat) (r2 : List Nat) : List Nat :=
  if Nat.lcm b b2 ≤ 24 then (List.range (Nat.lcm b b2)).map fun i => if (r[i % b]?).getD 0 = 46 then (r2[i % b2]?).getD 0 else (r[i % b]?).getD 0 else []
def rdJoin (part : List Nat → Res) : Nat → List Nat → Nat → List Nat → Res
  | 0, s, b, r => .ok (s, b, r)
  | n + 1, s, b, r => match s with
    | [] => .ok (s, b, r)
    | c :: s2 => if c = 38 then
        match part s2 with
        | .error e => .error e
        | .ok (s3, b2, r2) => rdJoin part n s3 (Nat.lcm b b2) (tog b r b2 r2)
      else .ok (s, b, r)
def endOf : Bool → List Nat
  | true => []
  | false => [41]
def rdParts (part : List Nat → Res) (top : Bool) (s : List Nat) : Res := match part s with
  | .error e => .error e
  | .ok (s2, b, r) => match rdJoin part s2.length s2 b r with
    | .error e => .error e
    | .ok (s3, b3, r3) => if s3.take 1 = endOf top then .ok (s3, b3, r3) else .error s3.length
def rdAt : Nat → Bool → List Nat → Res
  | 0, top, s => rdParts (rdPart (rdItem none)) top s
  | n + 1, top, s => rdParts (rdPart (rdItem (some (rdAt n false)))) top s
def innerOf : Nat → Option (List Nat → Res)
  | 0 => none
  | n + 1 => some (rdAt n false)
theorem rdAt_eq (n : Nat) (top : Bool) (s : List Nat) : rdAt n top s = rdParts (rdPart (rdItem (innerOf n))) top s := by cases n <;> rfl

/-! ### what is got: a rest, beats that are not too many, a row of as many signs -/
structure Fine (s : List Nat) (g : Got) : Prop where
  suf : ∃ k, 1 ≤ k ∧ k ≤ s.length ∧ g.1 = s.drop k ∧ g.2.1 ≤ 2 ^ (6 * k)
  pos : 1 ≤ g.2.1
  row : g.2.1 ≤ 24 → g.2.2.length = g.2.1 ∧ ∀ c ∈ g.2.2, isSg c = true
  non : 24 < g.2.1 → g.2.2 = []
def Ok (f : List Nat → Res) (when : List Nat → Prop) : Prop := ∀ s g, when s → f s = .ok g → Fine s g
theorem two_add {a b : Nat} (ha : 2 ≤ a) (hb : 2 ≤ b) : a + b ≤ a * b := by
  obtain ⟨x, rfl⟩ : ∃ x, a = x + 2 := ⟨a - 2, by omega⟩
  obtain ⟨y, rfl⟩ : ∃ y, b = y + 2 := ⟨b - 2, by omega⟩
  have : (x + 2) * (y + 2) = x * y + 2 * x + 2 * y + 4 := by
    rw [Nat.add_mul, Nat.mul_add, Nat.mul_add]; omega
  omega
theorem pow_split {a b : Nat} : 2 ^ (6 * (a + b)) = 2 ^ (6 * a) * 2 ^ (6 * b) := by rw [Nat.mul_add, Nat.pow_add]
theorem pow_two {k : Nat} (h : 1 ≤ k) : 64 ≤ 2 ^ (6 * k) := by
  obtain ⟨x, rfl⟩ : ∃ x, k = 1 + x := ⟨k - 1, by omega⟩
  rw [pow_split]
  have : 1 ≤ 2 ^ (6 * x) := Nat.one_le_two_pow
  calc 64 = 2 ^ (6 * 1) * 1 := by decide
    _ ≤ _ := Nat.mul_le_mul_left _ this
theorem ds_rs (s : List Nat) : dsOf s ++ rsOf s = s := List.takeWhile_append_dropWhile
theorem rs_drop (s : List Nat) : rsOf s = s.drop (dsOf s).length := by
  have h := ds_rs s
  conv => rhs; rw [← h]
  rw [h]
  have : s = dsOf s ++ rsOf s := h.symm
  conv => rhs; arg 2; rw [this]
  rw [List.drop_left]
theorem tw_mem {p : Nat → Bool} : ∀ (s : List Nat) (c : Nat), c ∈ s.takeWhile p → p c = true
  | [], c, h => by cases h
  | x :: r, c, h => by
    rw [List.takeWhile_cons] at h
    split at h
    · rcases List.mem_cons.mp h with rfl | h
      · assumption
      · exact tw_mem r c h
    · cases h
theorem ds_dig (s : List Nat) : ∀ c ∈ dsOf s, isDig c = true := fun c h => tw_mem s c h
theorem len_rs (s : List Nat) : (dsOf s).length + (rsOf s).length = s.length := by
  rw [← List.length_append, ds_rs]
theorem rep_len (t : Nat) (r : List Nat) : (rep t r).length = t * r.length := by
  unfold rep
  induction t with
  | zero => simp
  | succ t ih => rw [List.replicate_succ, List.flatten_cons, List.length_append, ih, Nat.succ_mul]; omega
theorem rep_mem {t : Nat} {r : List Nat} {c : Nat} (h : c ∈ rep t r) : c ∈ r := by
  obtain ⟨l, h1, h2⟩ := List.mem_flatten.mp h
  rw [List.eq_of_mem_replicate h1] at h2
  exact h2
theorem ok_item {inner : Option (List Nat → Res)} (hi : ∀ f, inner = some f → ∀ s g, f s = .ok g → Fine s g ∧ g.1 ≠ []) : Ok (rdItem inner) (fun s => goes s = true) := by
  intro s g hg h
  unfold rdItem at h
  have hl := len_rs s
  have hd := rs_drop s
  split at h
  · rename_i hds
    cases h
    cases s with
    | nil => cases hg
    | cons c r =>
      refine ⟨⟨1, Nat.le_refl _, by simp, rfl, by show (1 : Nat) ≤ 2 ^ (6 * 1); decide⟩, Nat.le_refl _, fun _ => ⟨rfl, fun x hx => ?_⟩, fun z => absurd z (by show ¬ 24 < 1; decide)⟩
      have hx2 : x = c := by simpa using hx
      subst hx2
      have g2 : (isSg x || isDig x) = true := hg
      rcases Bool.or_eq_true_iff.mp g2 with z | z
      · exact z
      · unfold dsOf at hds
        rw [List.takeWhile_cons, z] at hds
        cases hds
  · rename_i d ds hds
    rw [hds] at hl hd
    rw [List.length_cons] at hl
    split at h
    · cases h
    · split at h
      · cases h
      · rename_i c r hrs
        rw [hrs] at hl hd
        rw [List.length_cons] at hl hd
        generalize dval ((d :: ds).take 3) = t at h
        have hr : r = s.drop (ds.length + 2) := by
          have e : (c :: r).drop 1 = (s.drop (ds.length + 1)).drop 1 := by rw [hd]
          rw [List.drop_drop] at e
          simpa using e
        split at h
        · rename_i hsg
          split at h
          · rename_i ht
            cases h
            refine ⟨⟨ds.length + 2, by omega, by omega, hr, ?_⟩, by show 1 ≤ t; omega, fun _ => ⟨List.length_replicate, fun x hx => by rw [List.eq_of_mem_replicate hx]; exact hsg⟩, fun z => absurd z (by show ¬ 24 < t; omega)⟩
            have := pow_two (k := ds.length + 2) (by omega)
            show t ≤ _
            omega
          · cases h
        · split at h
          · split at h
            · rename_i ht
              unfold grp at h
              split at h
              · cases h
              · rename_i f
                split at h
                · cases h
                · rename_i r2 b row hf
                  cases h
                  obtain ⟨F, ne⟩ := hi f rfl _ _ hf
                  obtain ⟨k, k1, k2, k3, k4⟩ := F.suf
                  have k3' : r2 = r.drop k := k3
                  have k4' : b ≤ 2 ^ (6 * k) := k4
                  have p1 : 1 ≤ b := F.pos
                  have kl : k < r.length := by
                    rcases Nat.lt_or_ge k r.length with z | z
                    · exact z
                    · exact absurd (by show r2 = []; rw [k3', List.drop_eq_nil_of_le z]) ne
                  refine ⟨⟨ds.length + 2 + (k + 1), by omega, by omega, ?_, ?_⟩, ?_, ?_, ?_⟩
                  · show r2.drop 1 = _
                    rw [k3', hr, List.drop_drop, List.drop_drop, Nat.add_assoc]
                  · show t * b ≤ _
                    rw [show ds.length + 2 + (k + 1) = (ds.length + 3) + k by omega, pow_split]
                    refine Nat.mul_le_mul ?_ k4'
                    have := pow_two (k := ds.length + 3) (by omega)
                    omega
                  · show 1 ≤ t * b
                    exact Nat.mul_pos (by omega) p1
                  · intro hz
                    have hz' : t * b ≤ 24 := hz
                    have hb : b ≤ 24 := Nat.le_trans (Nat.le_mul_of_pos_left b (by omega)) hz'
                    obtain ⟨e1, e2⟩ := F.row hb
                    show (kept (t * b) (rep t row)).length = t * b ∧ _
                    unfold kept
                    rw [if_pos hz']
                    exact ⟨by rw [rep_len]; show t * row.length = _; rw [show row.length = b from e1], fun x hx => e2 x (rep_mem hx)⟩
                  · intro hz
                    have hz' : ¬ t * b ≤ 24 := Nat.not_le.mpr hz
                    show kept (t * b) (rep t row) = []
                    unfold kept
                    rw [if_neg hz']
            · cases h
          · cases h
/-- so far in a part: k signs gone, b beats -/
structure Far (s0 : List Nat) (s : List Nat) (b : Nat) (r : List Nat) : Prop where
  suf : ∃ k, k ≤ s0.length ∧ s = s0.drop k ∧ (k = 0 → b = 0) ∧ b ≤ 2 ^ (6 * k) ∧ (1 ≤ k → 1 ≤ b)
  row : b ≤ 24 → r.length = b ∧ ∀ c ∈ r, isSg c = true
  non : 24 < b → r = []
theorem far_step {s0 s s2 : List Nat} {b m : Nat} {r g : List Nat} (F : Far s0 s b r) (G : Fine s (s2, m, g)) : Far s0 s2 (b + m) (kept (b + m) (r ++ g)) ∧ s2.length < s.length := by
  obtain ⟨k, k1, k2, k3, k4, k5⟩ := F.suf
  obtain ⟨j, j1, j2, j3, j4⟩ := G.suf
  have j3' : s2 = s.drop j := j3
  have j4' : m ≤ 2 ^ (6 * j) := j4
  have p1 : 1 ≤ m := G.pos
  have sl : s.length = s0.length - k := by rw [k2, List.length_drop]
  refine ⟨⟨⟨k + j, by omega, by rw [j3', k2, List.drop_drop], fun z => by omega, ?_, fun _ => by omega⟩, ?_, ?_⟩, ?_⟩
  · rw [pow_split]
    rcases Nat.eq_zero_or_pos k with z | z
    · subst z
      rw [k3 rfl, Nat.zero_add]
      show m ≤ 1 * _
      omega
    · have h1 := pow_two z
      have h2 := pow_two j1
      have h3 := two_add (a := 2 ^ (6 * k)) (b := 2 ^ (6 * j)) (by omega) (by omega)
      omega
  · intro h
    obtain ⟨e1, e2⟩ := F.row (by omega)
    obtain ⟨e3, e4⟩ := G.row (by show m ≤ 24; omega)
    unfold kept
    rw [if_pos h]
    refine ⟨by rw [List.length_append, e1]; show b + g.length = _; rw [show g.length = m from e3], fun c hc => ?_⟩
    rcases List.mem_append.mp hc with hc | hc
    · exact e2 c hc
    · exact e4 c hc
  · intro h
    unfold kept
    rw [if_neg (by omega)]
  · rw [j3', List.length_drop]
    omega
theorem far_items {item : List Nat → Res} (hi : Ok item (fun s => goes s = true)) {s0 : List Nat} : ∀ (n : Nat) (s : List Nat) (b : Nat) (r : List Nat) (g : Got), Far s0 s b r → rdItems item n s b r = .ok g → Far s0 g.1 g.2.1 g.2.2
  | 0, s, b, r, g, F, h => by
    cases h
    exact F
  | n + 1, s, b, r, g, F, h => by
    unfold rdItems at h
    split at h
    · rename_i hg
      split at h
      · cases h
      · rename_i s2 m x hx
        exact far_items hi n _ _ _ g (far_step F (hi s _ hg hx)).1 h
    · cases h
      exact F
theorem far_start (s : List Nat) : Far s s 0 [] := ⟨⟨0, Nat.zero_le _, rfl, fun _ => rfl, Nat.zero_le _, fun z => absurd z (by decide)⟩, fun _ => ⟨rfl, fun c h => nomatch h⟩, fun z => absurd z (by decide)⟩
theorem far_fine {s0 s : List Nat} {b : Nat} {r : List Nat} (F : Far s0 s b r) (hb : b ≠ 0) : Fine s0 (s, b, r) := by
  obtain ⟨k, k1, k2, k3, k4, k5⟩ := F.suf
  have hk : 1 ≤ k := Nat.pos_of_ne_zero fun z => hb (k3 z)
  exact ⟨⟨k, hk, k1, k2, k4⟩, Nat.pos_of_ne_zero hb, F.row, F.non⟩
theorem ok_part {item : List Nat → Res} (hi : Ok item (fun s => goes s = true)) : Ok (rdPart item) (fun _ => True) := by
  intro s g _ h
  unfold rdPart at h
  split at h
  · cases h
  · rename_i s2 b r hr
    have F := far_items hi _ _ _ _ _ (far_start s) hr
    split at h
    · cases h
    · rename_i hb
      have G := far_fine F hb
      split at h
      · cases h
        exact G
      · rename_i c s3
        split at h
        · unfold rdWhole at h
          split at h
          · cases h
          · rename_i d ds hds
            split at h
            · cases h
            · split at h
              · rename_i hw
                cases h
                obtain ⟨k, k1, k2, k3, k4⟩ := G.suf
                have k3' : c :: s3 = s.drop k := k3
                have hl := len_rs s3
                have hd := rs_drop s3
                rw [hds] at hl hd
                rw [List.length_cons] at hl hd
                generalize dval ((d :: ds).take 3) = t at hw
                have sl : s3.length + 1 = s.length - k := by rw [← List.length_cons (a := c), k3', List.length_drop]
                have e3 : s3 = s.drop (k + 1) := by
                  have e : (c :: s3).drop 1 = (s.drop k).drop 1 := by rw [k3']
                  rw [List.drop_drop] at e
                  simpa using e
                have p1 : 1 ≤ b := G.pos
                refine ⟨⟨k + 1 + (ds.length + 1), by omega, by omega, ?_, ?_⟩, ?_, ?_, ?_⟩
                · show rsOf s3 = _
                  rw [hd, e3, List.drop_drop]
                · show t ≤ _
                  have := pow_two (k := k + 1 + (ds.length + 1)) (by omega)
                  omega
                · show 1 ≤ t
                  omega
                · intro _
                  obtain ⟨e1, e2⟩ := G.row (by show b ≤ 24; omega)
                  refine ⟨?_, fun x hx => ?_⟩
                  · show (r ++ List.replicate (t - b) 46).length = t
                    rw [List.length_append, show r.length = b from e1, List.length_replicate]
                    omega
                  · rcases List.mem_append.mp hx with hx | hx
                    · exact e2 x hx
                    · rw [List.eq_of_mem_replicate hx]
                      rfl
                · intro z
                  exact absurd z (by show ¬ 24 < t; omega)
              · cases h
        · cases h
          exact G
theorem getD_mem {r : List Nat} {i : Nat} (h : i < r.length) : (r[i]?).getD 0 ∈ r := by
  rw [List.getElem?_eq_getElem h]
  exact List.getElem_mem _
theorem lcm_le {a b : Nat} (ha : 1 ≤ a) (hb : 1 ≤ b) : a ≤ Nat.lcm a b ∧ b ≤ Nat.lcm a b ∧ 1 ≤ Nat.lcm a b ∧ Nat.lcm a b ≤ a * b := by
  have p : 0 < Nat.lcm a b := Nat.lcm_pos ha hb
  exact ⟨Nat.le_of_dvd p (Nat.dvd_lcm_left a b), Nat.le_of_dvd p (Nat.dvd_lcm_right a b), p, Nat.le_of_dvd (Nat.mul_pos ha hb) (Nat.lcm_dvd_mul a b)⟩
theorem fine_join {s0 s2 s3 : List Nat} {c b b2 : Nat} {r r2 : List Nat} (F : Fine s0 (c :: s2, b, r)) (G : Fine s2 (s3, b2, r2)) : Fine s0 (s3, Nat.lcm b b2, tog b r b2 r2) := by
  obtain ⟨k, k1, k2, k3, k4⟩ := F.suf
  obtain ⟨j, j1, j2, j3, j4⟩ := G.suf
  have k3' : c :: s2 = s0.drop k := k3
  have j3' : s3 = s2.drop j := j3
  have k4' : b ≤ 2 ^ (6 * k) := k4
  have j4' : b2 ≤ 2 ^ (6 * j) := j4
  have p1 : 1 ≤ b := F.pos
  have p2 : 1 ≤ b2 := G.pos
  obtain ⟨l1, l2, l3, l4⟩ := lcm_le p1 p2
  have e3 : s2 = s0.drop (k + 1) := by
    have e : (c :: s2).drop 1 = (s0.drop k).drop 1 := by rw [k3']
    rw [List.drop_drop] at e
    simpa using e
  have sl : s2.length + 1 = s0.length - k := by rw [← List.length_cons (a := c), k3', List.length_drop]
  refine ⟨⟨k + 1 + j, by omega, by omega, by show s3 = _; rw [j3', e3, List.drop_drop], ?_⟩, l3, ?_, ?_⟩
  · show Nat.lcm b b2 ≤ _
    rw [pow_split]
    refine Nat.le_trans l4 (Nat.mul_le_mul ?_ j4')
    refine Nat.le_trans k4' ?_
    exact Nat.pow_le_pow_right (by decide) (by omega)
  · intro h
    have h' : Nat.lcm b b2 ≤ 24 := h
    obtain ⟨e1, e2⟩ := F.row (by show b ≤ 24; omega)
    obtain ⟨e4, e5⟩ := G.row (by show b2 ≤ 24; omega)
    have e1' : r.length = b := e1
    have e4' : r2.length = b2 := e4
    show (tog b r b2 r2).length = Nat.lcm b b2 ∧ _
    unfold tog
    rw [if_pos h']
    refine ⟨by rw [List.length_map, List.length_range], fun x hx => ?_⟩
    have hx' : x ∈ (List.range (Nat.lcm b b2)).map fun i => if (r[i % b]?).getD 0 = 46 then (r2[i % b2]?).getD 0 else (r[i % b]?).getD 0 := hx
    obtain ⟨i, _, rfl⟩ := List.mem_map.mp hx'
    split
    · exact e5 _ (getD_mem (by rw [e4']; exact Nat.mod_lt _ p2))
    · exact e2 _ (getD_mem (by rw [e1']; exact Nat.mod_lt _ p1))
  · intro h
    have h' : ¬ Nat.lcm b b2 ≤ 24 := Nat.not_le.mpr h
    show tog b r b2 r2 = []
    unfold tog
    rw [if_neg h']
theorem ok_join {part : List Nat → Res} (hp : Ok part (fun _ => True)) {s0 : List Nat} : ∀ (n : Nat) (s : List Nat) (b : Nat) (r : List Nat) (g : Got), Fine s0 (s, b, r) → rdJoin part n s b r = .ok g → Fine s0 g
  | 0, s, b, r, g, F, h => by
    cases h
    exact F
  | n + 1, s, b, r, g, F, h => by
    unfold rdJoin at h
    split at h
    · cases h
      exact F
    · rename_i c s2
      split at h
      · split at h
        · cases h
        · rename_i s3 b2 r2 hx
          exact ok_join hp n _ _ _ g (fine_join F (hp s2 _ trivial hx)) h
      · cases h
        exact F
theorem ok_parts {part : List Nat → Res} (hp : Ok part (fun _ => True)) {top : Bool} {s : List Nat} {g : Got} (h : rdParts part top s = .ok g) : Fine s g ∧ (top = false → g.1 ≠ []) := by
  unfold rdParts at h
  split at h
  · cases h
  · rename_i s2 b r hx
    split at h
    · cases h
    · rename_i s3 b3 r3 hj
      split at h
      · rename_i ht
        cases h
        refine ⟨ok_join hp _ _ _ _ _ (hp s _ trivial hx) hj, fun z e => ?_⟩
        subst z
        have e' : s3 = [] := e
        rw [e'] at ht
        cases ht
      · cases h
theorem ok_at : ∀ (n : Nat) (top : Bool) (s : List Nat) (g : Got), rdAt n top s = .ok g → Fine s g ∧ (top = false → g.1 ≠ [])
  | 0, top, s, g, h => ok_parts (ok_part (ok_item (inner := none) fun f z => by cases z)) h
  | n + 1, top, s, g, h => ok_parts (ok_part (ok_item (inner := some (rdAt n false)) fun f z s g hf => by
      cases z
      obtain ⟨h1, h2⟩ := ok_at n false s g hf
      exact ⟨h1, h2 rfl⟩)) h
theorem inner_ok (n : Nat) : ∀ f, innerOf n = some f → ∀ s g, f s = .ok g → Fine s g ∧ g.1 ≠ [] := by
  intro f z s g hf
  cases n with
  | zero => cases z
  | succ n =>
    cases z
    obtain ⟨h1, h2⟩ := ok_at n false s g hf
    exact ⟨h1, h2 rfl⟩
end Rt

set_option Elab.async false
namespace Fk
open PySem
def topS (i : Nat) : Stmt := PySem.Challenge.pw_falseglim_k04_rhythm_texts.main.body.getD i (.Pass ⟨0, 0, 0, 0⟩)
end Fk

set_option Elab.async false
set_option linter.all false
set_option maxRecDepth 100000
set_option maxHeartbeats 4000000
namespace Fk
open PySem PySem.Spec PyProof.Rows L2 Fg Rt
local macro_rules | `(tactic| walk_at "rd1") => `(tactic| first
  | with_reducible refine r_seq ?_
  | with_reducible refine r_asg ?_
  | with_reducible refine r_gname ?_
  | with_reducible refine r_gsub ?_
  | with_reducible refine r_ret ?_
  | with_reducible refine r_retN ?_
  | with_reducible refine r_next ?_
  | with_reducible refine r_drop ?_
  | with_reducible refine r_ifS ?_
  | with_reducible refine r_if ?_
  | with_reducible refine r_par ?_
  | with_reducible refine r_pair ?_
  | with_reducible refine r_test ?_
  | with_reducible refine r_tB ?_
  | with_reducible refine r_not ?_
  | with_reducible refine r_and ?_
  | with_reducible refine r_or ?_
  | with_reducible refine r_andV ?_
  | with_reducible refine r_orV ?_
  | with_reducible refine r_notV ?_
  | with_reducible refine r_nil ?_
  | with_reducible refine r_cons ?_
  | with_reducible refine r_call ?_
  | with_reducible refine r_callS ?_
  | with_reducible refine r_cb ?_
  | with_reducible refine r_then ?_
  | with_reducible refine r_tup ?_
  | with_reducible refine r_lst ?_
  | with_reducible refine r_sl ?_
  | with_reducible refine r_nopart ?_
  | with_reducible refine r_part ?_
  | with_reducible refine r_lcR1 ?_
  | with_reducible refine r_lcR2 ?_
  | with_reducible refine r_lcL ?_
  | with_reducible refine r_lcT ?_
  | with_reducible refine r_forR1 ?_
  | with_reducible refine r_forR2 ?_
  | with_reducible refine r_forL ?_
  | with_reducible refine r_forT ?_
  | with_reducible refine r_forE ?_
  | with_reducible refine r_strE ?_
  | ((with_reducible refine r_rng1 ?hc ?_); (case hc => omega))
  | ((with_reducible refine r_rng2 ?hc ?_); (case hc => omega))
  | ((with_reducible refine' r_refL ?hc ?_); (case hc => first | assumption | exact Evl.sq_of (by assumption)))
  | ((with_reducible refine' r_refT ?hc ?_); (case hc => first | assumption | exact Evl.st_of (by assumption)))
  | with_reducible refine r_op ?_
  | with_reducible refine r_un ?_
  | with_reducible refine r_chain ?_
  | ((with_reducible refine' r_var ?hv ?_); (case hv => exact rfl))
  | with_reducible refine r_cS ?_
  | with_reducible refine r_cs ?_
  | with_reducible refine r_c ?_
  | with_reducible refine r_yes ?_
  | with_reducible refine r_bm ?_
  | with_reducible refine r_bl ?_
  | with_reducible refine r_in ?_
  | with_reducible refine r_ty ?_
  | with_reducible refine r_I0 ?_
  | ((with_reducible refine r_I ?hc ?_); (case hc => first | assumption | (show (0 : Int) < _; decide) | exact Or.inr ⟨by decide, by decide⟩ | exact Or.inr ⟨by omega, by omega⟩ | exact Or.inl ⟨by decide, by decide⟩ | exact (show CDivW _ _ from ⟨by decide, by decide +kernel⟩) | exact (show CPowW _ _ from ⟨by decide, by decide +kernel⟩) | (show (0 : Int) < _; omega)))
  | with_reducible refine r_U ?_
  | with_reducible refine r_eqI ?_
  | with_reducible refine r_neI ?_
  | with_reducible refine r_eqS ?_
  | with_reducible refine r_neS ?_
  | with_reducible refine r_eqB ?_
  | with_reducible refine r_neB ?_
  | with_reducible refine r_niS ?_
  | with_reducible refine r_inSS ?_
  | ((with_reducible refine r_slSS ?hc ?_); (case hc => first | exact small (by omega) | exact small (by simp; omega)))
  | ((with_reducible refine r_lenS ?hc ?_); (case hc => first | exact small (by omega) | exact small (by simp; omega)))
  | ((with_reducible refine' r_lenL ?hc ?_); (case hc => first | assumption | exact Evl.sq_of (by assumption)))
  | ((with_reducible refine' r_lenT ?hc ?_); (case hc => first | assumption | exact Evl.st_of (by assumption)))
  | ((with_reducible refine' r_ixL ?h1 ?h2 ?h3 ?_); (case h1 => first | assumption | exact Evl.sq_of (by assumption) | exact Evl.sq_of upd_same); (case h2 => first | decide | omega); (case h3 => first | exact rfl | assumption))
  | ((with_reducible refine' r_ixT ?h1 ?h2 ?h3 ?_); (case h1 => first | assumption | exact Evl.st_of (by assumption)); (case h2 => first | decide | omega); (case h3 => first | exact rfl | assumption))
  | with_reducible refine r_T ?_
  | with_reducible refine r_notNn ?_
  | with_reducible refine r_notN_int ?_
  | with_reducible refine r_notN_str ?_
  | with_reducible refine r_notN_ref ?_
  | with_reducible refine r_isNn ?_
  | with_reducible refine r_isN_int ?_
  | with_reducible refine r_isN_str ?_
  | with_reducible refine r_isN_ref ?_
  | ((with_reducible refine' r_isi ?ht ?hk ?_); (case ht => first | exact .base (.int _) | exact .base (.bl _) | exact .base (.str _) | exact .base .non | exact .base (.lst (by assumption)) | exact .base (.tup (by assumption))); (case hk => first | exact kb_int_int | exact kb_int_bool | exact kb_int_str | exact kb_int_list | exact kb_int_tuple | exact kb_bool_int | exact kb_bool_bool | exact kb_bool_str | exact kb_bool_list | exact kb_bool_tuple | exact kb_str_int | exact kb_str_bool | exact kb_str_str | exact kb_str_list | exact kb_str_tuple | exact kb_NoneType_int | exact kb_NoneType_bool | exact kb_NoneType_str | exact kb_NoneType_list | exact kb_NoneType_tuple | exact kb_list_int | exact kb_list_bool | exact kb_list_str | exact kb_list_list | exact kb_list_tuple | exact kb_tuple_int | exact kb_tuple_bool | exact kb_tuple_str | exact kb_tuple_list | exact kb_tuple_tuple))
  | with_reducible refine r_F ?_
  | with_reducible refine r_nT ?_
  | with_reducible refine r_nF ?_
  | with_reducible refine r_mko ?_
  | with_reducible refine r_xf ?_
  | ((with_reducible refine' r_sum ?hc ?_); (case hc => first | assumption | exact Evl.sq_of (by assumption)))
  | ((with_reducible refine' r_setL ?h1 ?h2 ?h3 ?_); (case h1 => first | assumption | exact upd_same); (case h2 => first | decide | omega); (case h3 => first | (show _ < _; decide) | (simp; done)))
  | with_reducible refine r_int ?_
  | with_reducible refine r_abs ?_)
local macro_rules | `(tactic| walk_at "rd") => `(tactic| repeat (walk_at "rd1"))

section
variable {P : Program} {w : World} {K : PySem.W.Frag} {mg : Str → Option Value} {base : Heap}
abbrev SGL : List Nat := [46, 103, 114, 119]
abbrev DGL : List Nat := [48, 49, 50, 51, 52, 53, 54, 55, 56, 57]
theorem sgl (c : Nat) : decide (c ∈ SGL) = isSg c := by unfold SGL isSg; simp
theorem dgl (c : Nat) : decide (c ∈ DGL) = isDig c := by
  unfold DGL isDig
  apply decide_eq_decide.mpr
  simp only [List.mem_cons, List.not_mem_nil, or_false]
  omega
theorem cut_mid {l : List Nat} {i j : Int} (h : 0 ≤ i) (h2 : i ≤ j) : cutL l (some i) (some j) = (l.drop i.toNat).take (j.toNat - i.toNat) := by
  unfold cutL
  rw [sIx_pos h, sIx_pos (by omega)]
  by_cases hi : i.toNat ≤ l.length
  · rw [Nat.min_eq_left hi]
    by_cases hj : j.toNat ≤ l.length
    · rw [Nat.min_eq_left hj]
    · rw [Nat.min_eq_right (by omega), List.take_of_length_le (by rw [List.length_drop]; omega), List.take_of_length_le (by rw [List.length_drop]; omega)]
  · rw [List.drop_eq_nil_of_le (by omega : l.length ≤ min i.toNat l.length), List.drop_eq_nil_of_le (by omega : l.length ≤ i.toNat)]
    simp
theorem take1 {l : List Nat} {i : Nat} : (l.drop i).take 1 = match l[i]? with
  | none => []
  | some c => [c] := by
  rw [← List.head?_drop]
  cases l.drop i <;> rfl
def spIsSign : Sp := fun vs H Q _ => ∃ l : List Nat, vs = [.str (S l)] ∧ l.length ≤ 1 ∧ Q (.bl (match l with
  | [] => false
  | c :: _ => isSg c)) H
abbrev s_is_sign : Stmt := topS 10
abbrev N_is_sign : List Str := ["thing"]
theorem sc_is_sign : FnScope ["thing"] ["thing"] (defScope s_is_sign) := ⟨rfl, rfl, rfl, by decide +kernel, rfl, by decide +kernel, by decide +kernel⟩
theorem can_is_sign (T : Bi mg) (F : Defd K mg "is_sign" s_is_sign ["thing"]) (c_SIGNS : ∃ u, mg "SIGNS" = some u ∧ RelV (.str (S SGL)) u) : Can P w K mg base L2.CX0 1 "is_sign" ["thing"] spIsSign := by
  refine can0 F sc_is_sign (fun vs H Q E h => ?_) (fun f cdv A outer s H vs Q E hr h => ⟨_, (pss_one (ps_ret (pe_and (pe_callB call_isi (by rfl) T.b_isinstance boot_isinstance (pa_cons (pv 0) (pa_cons (pe_bltn (v := .ty "str") (by rfl) T.b_str boot_str rfl) pa_nil))) (pe_and (pe_cmpR op_eq (pe_callB call_lenS (by rfl) T.b_len boot_len (pa_cons (pv 0) pa_nil)) pe_int (nomark _)) (pe_one (pe_cmpR op_inSS (pv 0) (C8.pe_gc rfl c_SIGNS) (by rfl))))))), ?_⟩)
  · obtain ⟨_, rfl, _⟩ := h
    rfl
  · obtain ⟨l, rfl, hl, q⟩ := h
    walk_at "rd"
    match l, hl with
    | [], _ =>
      walk_at "rd"
      refine r_ite (fun z => absurd z (by decide)) (fun _ => ?_)
      exact q
    | [c], _ =>
      walk_at "rd"
      refine r_ite (fun _ => ?_) (fun z => absurd rfl z)
      walk_at "rd"
      rw [sgl c]
      exact q
    | _ :: _ :: _, hl => exact absurd hl (by simp)
def spKept : Sp := fun vs H Q _ => ∃ (b : Nat) (r : List Nat), vs = [.int (b : Int), .str (S r)] ∧ Q (.str (S (kept b r))) H
abbrev s_kept : Stmt := topS 16
abbrev N_kept : List Str := ["beats", "row"]
theorem sc_kept : FnScope ["beats", "row"] ["beats", "row"] (defScope s_kept) := ⟨rfl, rfl, rfl, by decide +kernel, rfl, by decide +kernel, by decide +kernel⟩
theorem can_kept (T : Bi mg) (F : Defd K mg "kept" s_kept ["beats", "row"]) (c_MOST_BEATS : ∃ u, mg "MOST_BEATS" = some u ∧ RelV (.int 24) u) : Can P w K mg base L2.CX0 1 "kept" ["beats", "row"] spKept := by
  refine can0 F sc_kept (fun vs H Q E h => ?_) (fun f cdv A outer s H vs Q E hr h => ⟨_, (pss_one (ps_ret (pe_ifExp (pt_cmpR op_le (pv 0) (C8.pe_gc rfl c_MOST_BEATS) (nomark _)) (pv 1) (pe_strL [] (by decide +kernel))))), ?_⟩)
  · obtain ⟨_, _, rfl, _⟩ := h
    rfl
  · obtain ⟨b, r, rfl, q⟩ := h
    walk_at "rd"
    refine r_ite (fun h => ?_) (fun h => ?_)
    · walk_at "rd"
      unfold kept at q
      rw [if_pos (by omega)] at q
      exact q
    · walk_at "rd"
      unfold kept at q
      rw [if_neg (by omega)] at q
      exact q
def spChar : Sp := fun vs H Q _ => ∃ (l : List Nat) (i : Nat), vs = [.str (S l), .int (i : Int)] ∧ l.length ≤ 100000 ∧ Q (.str (S ((l.drop i).take 1))) H
abbrev s_char_at : Stmt := topS 18
abbrev N_char_at : List Str := ["text", "at"]
theorem sc_char_at : FnScope ["text", "at"] ["text", "at"] (defScope s_char_at) := ⟨rfl, rfl, rfl, by decide +kernel, rfl, by decide +kernel, by decide +kernel⟩
theorem can_char_at (T : Bi mg) (F : Defd K mg "char_at" s_char_at ["text", "at"]) : Can P w K mg base L2.CX0 1 "char_at" ["text", "at"] spChar := by
  refine can0 F sc_char_at (fun vs H Q E h => ?_) (fun f cdv A outer s H vs Q E hr h => ⟨_, (pss_one (ps_ret (pe_slice sl_strS (pv 0) (po_some (pv 1)) (po_some (pe_op op_add (pv 1) pe_int))))), ?_⟩)
  · obtain ⟨_, _, rfl, _⟩ := h
    rfl
  · obtain ⟨l, i, rfl, hl, q⟩ := h
    walk_at "rd"
    rw [cut_mid (by omega) (by omega), show ((i : Int) + 1).toNat - (i : Int).toNat = 1 by omega, Int.toNat_natCast]
    exact q
def spEnd : Sp := fun vs H Q _ => ∃ (l : List Nat) (i : Nat), vs = [.str (S l), .int (i : Int)] ∧ l.length ≤ 100000 ∧ Q (.int ((i + (dsOf (l.drop i)).length : Nat) : Int)) H
theorem tw_get {p : Nat → Bool} : ∀ (s : List Nat) (k : Nat), k < (s.takeWhile p).length → ∃ c, s[k]? = some c ∧ p c = true
  | [], k, h => absurd h (by simp)
  | x :: r, k, h => by
    rw [List.takeWhile_cons] at h
    split at h
    · rename_i hx
      cases k with
      | zero => exact ⟨x, rfl, hx⟩
      | succ k => exact tw_get r k (by simpa using h)
    · exact absurd h (by simp)
theorem tw_end {p : Nat → Bool} : ∀ (s : List Nat) (c : Nat), s[(s.takeWhile p).length]? = some c → p c = false
  | [], c, h => by simp at h
  | x :: r, c, h => by
    rw [List.takeWhile_cons] at h
    split at h
    · exact tw_end r c (by simpa using h)
    · rename_i hx
      have e : x = c := by simpa using h
      subst e
      simpa using hx
abbrev s_end_of_run : Stmt := topS 19
abbrev N_end_of_run : List Str := ["text", "at", "end"]
theorem sc_end_of_run : FnScope ["text", "at", "end"] ["text", "at"] (defScope s_end_of_run) := ⟨rfl, rfl, rfl, by decide +kernel, rfl, by decide +kernel, by decide +kernel⟩
theorem can_end_of_run (T : Bi mg) (F : Defd K mg "end_of_run" s_end_of_run ["text", "at"]) (c_DIGITS : ∃ u, mg "DIGITS" = some u ∧ RelV (.str (S DGL)) u) : Can P w K mg base L2.CX0 1 "end_of_run" ["text", "at"] spEnd := by
  refine can0 F sc_end_of_run (fun vs H Q E h => ?_) (fun f cdv A outer s H vs Q E hr h => ⟨_, (pss_cons (ps_set (i := 2) sc_end_of_run.nd rfl (by first | exact Or.inl rfl | exact Or.inr rfl) (pv 1))
  (pss_cons (ps_while PassesOwn.never (PW.pt (pw_and (pt_cmpR op_lt (pv 2) (pe_callB call_lenS (by rfl) T.b_len boot_len (pa_cons (pv 0) pa_nil)) (nomark _)) (pw_and1 (pt_cmpR op_inSS (pe_ix ix_strS (pv 0) (pv 2) (fun _ _ => rfl)) (C8.pe_gc rfl c_DIGITS) (by rfl))))) (pss_one (ps_set (i := 2) sc_end_of_run.nd rfl (by first | exact Or.inl rfl | exact Or.inr rfl) (pe_op op_add (pv 2) pe_int))))
  (pss_one (ps_ret (pv 2))))), ?_⟩)
  · obtain ⟨_, _, rfl, _⟩ := h
    rfl
  · obtain ⟨l, i, rfl, hl, q⟩ := h
    have dl : (dsOf (l.drop i)).length + i ≤ l.length + i := by
      have := len_rs (l.drop i)
      rw [List.length_drop] at this
      omega
    have dl2 : i ≤ l.length → (dsOf (l.drop i)).length + i ≤ l.length := by
      have := len_rs (l.drop i)
      rw [List.length_drop] at this
      omega
    walk_at "rd"
    refine ⟨fun m σ' H' => ∃ k : Nat, σ' = [some (.str (S l)), some (.int (i : Int)), some (.int ((i + k : Nat) : Int))] ∧ H' = H ∧ m + k = (dsOf (l.drop i)).length, ⟨(dsOf (l.drop i)).length, 0, rfl, rfl, by omega⟩, fun m σ' H' hW => ?_⟩
    obtain ⟨k, rfl, rfl, hm⟩ := hW
    walk_at "rd"
    refine r_ite (fun h => ?_) (fun h => ?_)
    · have hik : i + k < l.length := by omega
      have g : l[((i + k : Nat) : Int).toNat]? = some l[i + k] := by rw [Int.toNat_natCast]; exact List.getElem?_eq_getElem hik
      walk_at "rd"
      refine r_ixSS (small (by omega)) (by omega) g ?_
      walk_at "rd"
      have g2 : (l.drop i)[k]? = some l[i + k] := by rw [List.getElem?_drop]; exact List.getElem?_eq_getElem hik
      refine r_ite (fun h2 => ?_) (fun h2 => ?_)
      · have hk : k < (dsOf (l.drop i)).length := by
          rcases Nat.lt_or_ge k (dsOf (l.drop i)).length with z | z
          · exact z
          · have e : k = (dsOf (l.drop i)).length := by omega
            have e2 := tw_end (p := isDig) (l.drop i) l[i + k] (by rw [← g2, e]; rfl)
            rw [← dgl] at e2
            exact absurd h2 (of_decide_eq_false e2)
        refine ⟨fun σ2 H2 => ∃ k2 : Nat, σ2 = [some (.str (S l)), some (.int (i : Int)), some (.int ((i + k2 : Nat) : Int))] ∧ H2 = H' ∧ (m - 1) + k2 = (dsOf (l.drop i)).length, fun σ2 H2 z => ⟨m - 1, by omega, z⟩, ?_⟩
        walk_at "rd"
        exact ⟨k + 1, by rw [show ((i + (k + 1) : Nat) : Int) = ((i + k : Nat) : Int) + 1 by omega]; rfl, rfl, by omega⟩
      · have hk : k = (dsOf (l.drop i)).length := by
          rcases Nat.lt_or_ge k (dsOf (l.drop i)).length with z | z
          · obtain ⟨c, c1, c2⟩ := tw_get (p := isDig) (l.drop i) k z
            rw [g2] at c1
            rw [← Option.some.inj c1, ← dgl] at c2
            exact absurd (of_decide_eq_true c2) h2
          · omega
        walk_at "rd"
        rw [hk]
        exact q
    · have hk : k = (dsOf (l.drop i)).length := by
        rcases Nat.lt_or_ge k (dsOf (l.drop i)).length with z | z
        · obtain ⟨c, c1, c2⟩ := tw_get (p := isDig) (l.drop i) k z
          have := (List.getElem?_eq_some_iff.mp c1).1
          rw [List.length_drop] at this
          omega
        · omega
      walk_at "rd"
      rw [hk]
      exact q
end
end Fk

set_option Elab.async false
set_option linter.all false
set_option maxRecDepth 100000
set_option maxHeartbeats 4000000
namespace Fk
open PySem PySem.Spec PyProof.Rows L2 Fg Rt
local macro_rules | `(tactic| walk_at "rd1") => `(tactic| first
  | with_reducible refine r_seq ?_
  | with_reducible refine r_asg ?_
  | with_reducible refine r_gname ?_
  | with_reducible refine r_gsub ?_
  | with_reducible refine r_ret ?_
  | with_reducible refine r_retN ?_
  | with_reducible refine r_next ?_
  | with_reducible refine r_drop ?_
  | with_reducible refine r_ifS ?_
  | with_reducible refine r_if ?_
  | with_reducible refine r_par ?_
  | with_reducible refine r_pair ?_
  | with_reducible refine r_test ?_
  | with_reducible refine r_tB ?_
  | with_reducible refine r_not ?_
  | with_reducible refine r_and ?_
  | with_reducible refine r_or ?_
  | with_reducible refine r_andV ?_
  | with_reducible refine r_orV ?_
  | with_reducible refine r_notV ?_
  | with_reducible refine r_nil ?_
  | with_reducible refine r_cons ?_
  | with_reducible refine r_call ?_
  | with_reducible refine r_callS ?_
  | with_reducible refine r_cb ?_
  | with_reducible refine r_then ?_
  | with_reducible refine r_tup ?_
  | with_reducible refine r_lst ?_
  | with_reducible refine r_sl ?_
  | with_reducible refine r_nopart ?_
  | with_reducible refine r_part ?_
  | with_reducible refine r_lcR1 ?_
  | with_reducible refine r_lcR2 ?_
  | with_reducible refine r_lcL ?_
  | with_reducible refine r_lcT ?_
  | with_reducible refine r_forR1 ?_
  | with_reducible refine r_forR2 ?_
  | with_reducible refine r_forL ?_
  | with_reducible refine r_forT ?_
  | with_reducible refine r_forE ?_
  | with_reducible refine r_strE ?_
  | ((with_reducible refine r_rng1 ?hc ?_); (case hc => omega))
  | ((with_reducible refine r_rng2 ?hc ?_); (case hc => omega))
  | ((with_reducible refine' r_refL ?hc ?_); (case hc => first | assumption | exact Evl.sq_of (by assumption)))
  | ((with_reducible refine' r_refT ?hc ?_); (case hc => first | assumption | exact Evl.st_of (by assumption)))
  | with_reducible refine r_op ?_
  | with_reducible refine r_un ?_
  | with_reducible refine r_chain ?_
  | ((with_reducible refine' r_var ?hv ?_); (case hv => exact rfl))
  | with_reducible refine r_cS ?_
  | with_reducible refine r_cs ?_
  | with_reducible refine r_c ?_
  | with_reducible refine r_yes ?_
  | with_reducible refine r_bm ?_
  | with_reducible refine r_bl ?_
  | with_reducible refine r_in ?_
  | with_reducible refine r_ty ?_
  | with_reducible refine r_I0 ?_
  | ((with_reducible refine r_I ?hc ?_); (case hc => first | assumption | (show (0 : Int) < _; decide) | exact Or.inr ⟨by decide, by decide⟩ | exact Or.inr ⟨by omega, by omega⟩ | exact Or.inl ⟨by decide, by decide⟩ | exact (show CDivW _ _ from ⟨by decide, by decide +kernel⟩) | exact (show CPowW _ _ from ⟨by decide, by decide +kernel⟩) | (show (0 : Int) < _; omega)))
  | with_reducible refine r_U ?_
  | with_reducible refine r_eqI ?_
  | with_reducible refine r_neI ?_
  | with_reducible refine r_eqS ?_
  | with_reducible refine r_neS ?_
  | with_reducible refine r_eqB ?_
  | with_reducible refine r_neB ?_
  | with_reducible refine r_niS ?_
  | with_reducible refine r_inSS ?_
  | ((with_reducible refine r_slSS ?hc ?_); (case hc => first | exact small (by omega) | exact small (by simp; omega)))
  | ((with_reducible refine r_lenS ?hc ?_); (case hc => first | exact small (by omega) | exact small (by simp; omega)))
  | ((with_reducible refine' r_lenL ?hc ?_); (case hc => first | assumption | exact Evl.sq_of (by assumption)))
  | ((with_reducible refine' r_lenT ?hc ?_); (case hc => first | assumption | exact Evl.st_of (by assumption)))
  | ((with_reducible refine' r_ixL ?h1 ?h2 ?h3 ?_); (case h1 => first | assumption | exact Evl.sq_of (by assumption) | exact Evl.sq_of upd_same); (case h2 => first | decide | omega); (case h3 => first | exact rfl | assumption))
  | ((with_reducible refine' r_ixT ?h1 ?h2 ?h3 ?_); (case h1 => first | assumption | exact Evl.st_of (by assumption)); (case h2 => first | decide | omega); (case h3 => first | exact rfl | assumption))
  | with_reducible refine r_T ?_
  | with_reducible refine r_notNn ?_
  | with_reducible refine r_notN_int ?_
  | with_reducible refine r_notN_str ?_
  | with_reducible refine r_notN_ref ?_
  | with_reducible refine r_isNn ?_
  | with_reducible refine r_isN_int ?_
  | with_reducible refine r_isN_str ?_
  | with_reducible refine r_isN_ref ?_
  | ((with_reducible refine' r_isi ?ht ?hk ?_); (case ht => first | exact .base (.int _) | exact .base (.bl _) | exact .base (.str _) | exact .base .non | exact .base (.lst (by assumption)) | exact .base (.tup (by assumption))); (case hk => first | exact kb_int_int | exact kb_int_bool | exact kb_int_str | exact kb_int_list | exact kb_int_tuple | exact kb_bool_int | exact kb_bool_bool | exact kb_bool_str | exact kb_bool_list | exact kb_bool_tuple | exact kb_str_int | exact kb_str_bool | exact kb_str_str | exact kb_str_list | exact kb_str_tuple | exact kb_NoneType_int | exact kb_NoneType_bool | exact kb_NoneType_str | exact kb_NoneType_list | exact kb_NoneType_tuple | exact kb_list_int | exact kb_list_bool | exact kb_list_str | exact kb_list_list | exact kb_list_tuple | exact kb_tuple_int | exact kb_tuple_bool | exact kb_tuple_str | exact kb_tuple_list | exact kb_tuple_tuple))
  | with_reducible refine r_F ?_
  | with_reducible refine r_nT ?_
  | with_reducible refine r_nF ?_
  | with_reducible refine r_mko ?_
  | with_reducible refine r_xf ?_
  | ((with_reducible refine' r_sum ?hc ?_); (case hc => first | assumption | exact Evl.sq_of (by assumption)))
  | ((with_reducible refine' r_setL ?h1 ?h2 ?h3 ?_); (case h1 => first | assumption | exact upd_same); (case h2 => first | decide | omega); (case h3 => first | (show _ < _; decide) | (simp; done)))
  | with_reducible refine r_int ?_
  | with_reducible refine r_abs ?_)
local macro_rules | `(tactic| walk_at "rd") => `(tactic| repeat (walk_at "rd1"))

section
variable {P : Program} {w : World} {K : PySem.W.Frag} {mg : Str → Option Value} {base : Heap}
structure RowOk (b : Nat) (r : List Nat) : Prop where
  pos : 1 ≤ b
  lt : b < 2 ^ 13000
  row : b ≤ 24 → r.length = b ∧ ∀ c ∈ r, isSg c = true
  non : 24 < b → r = []
def togF (b : Nat) (r : List Nat) (b2 : Nat) (r2 : List Nat) (i : Nat) : Nat := if (r[i % b]?).getD 0 = 46 then (r2[i % b2]?).getD 0 else (r[i % b]?).getD 0
theorem getD_some {r : List Nat} {i : Nat} (h : i < r.length) : r[i]? = some ((r[i]?).getD 0) := by
  rw [List.getElem?_eq_getElem h]; rfl
def spTogether : Sp := fun vs H Q _ => ∃ (b : Nat) (r : List Nat) (b2 : Nat) (r2 : List Nat), vs = [.int (b : Int), .str (S r), .int (b2 : Int), .str (S r2)] ∧ RowOk b r ∧ RowOk b2 r2 ∧ ∀ p H', Ex H H' → H' p = some (.tup [.int ((Nat.lcm b b2 : Nat) : Int), .str (S (tog b r b2 r2))]) → Q (.ref p) H'
abbrev s_together : Stmt := topS 17
abbrev N_together : List Str := ["beats", "row", "other_beats", "other", "both", "signs", "beat", "sign"]
theorem sc_together : FnScope ["beats", "row", "other_beats", "other", "both", "signs", "beat", "sign"] ["beats", "row", "other_beats", "other"] (defScope s_together) := ⟨rfl, rfl, rfl, by decide +kernel, rfl, by decide +kernel, by decide +kernel⟩
theorem can_together (T : Bi mg) (F : Defd K mg "together" s_together ["beats", "row", "other_beats", "other"]) (c_MOST_BEATS : ∃ u, mg "MOST_BEATS" = some u ∧ RelV (.int 24) u) (c_DARK : ∃ u, mg "DARK" = some u ∧ RelV (.str (S [46])) u) (g_lcm : mg "lcm" = some (.builtin "math.lcm")) : Can P w K mg base L2.CX0 1 "together" ["beats", "row", "other_beats", "other"] spTogether := by
  refine can0 F sc_together (fun vs H Q E h => ?_) (fun f cdv A outer s H vs Q E hr h => ⟨_, (pss_cons (ps_set (i := 4) sc_together.nd rfl (by first | exact Or.inl rfl | exact Or.inr rfl) (pe_callBfun cr_lcm (by rfl) g_lcm (pa_cons (pv 0) (pa_cons (pv 2) pa_nil))))
  (pss_cons (ps_if (pt_cmpR op_gt (pv 4) (C8.pe_gc rfl c_MOST_BEATS) (nomark _)) (pss_one (ps_ret (pe_tup (pa_cons (pv 4) (pa_cons (pe_strL [] (by decide +kernel)) pa_nil))))) pss_nil)
  (pss_cons (ps_set (i := 5) sc_together.nd rfl (by first | exact Or.inl rfl | exact Or.inr rfl) (pe_lst pa_nil))
  (pss_cons (ps_for PassesOwn.never rfl (pi_range1 rfl T.b_range (pa_cons (pv 4) pa_nil)) (pg_name (i := 6) sc_together.nd rfl (by first | exact Or.inl rfl | exact Or.inr rfl))
    (pss_cons (ps_set (i := 7) sc_together.nd rfl (by first | exact Or.inl rfl | exact Or.inr rfl) (pe_ix ix_strS (pv 1) (pe_op op_mod (pv 6) (pv 0)) (fun _ _ => rfl)))
  (pss_one (ps_expr (pe_bm PySem.F.plainAttrs_list PySem.F.slot_list_append PySem.F.type_list_append mt_append (pv 5) (pa_cons (pe_ifExp (pt_cmpR op_eq (pv 7) (C8.pe_gc rfl c_DARK) (nomark _)) (pe_ix ix_strS (pv 3) (pe_op op_mod (pv 6) (pv 2)) (fun _ _ => rfl)) (pv 7)) pa_nil))))))
  (pss_one (ps_ret (pe_tup (pa_cons (pv 4) (pa_cons (pe_bm PySem.F.plainAttrs_str PySem.F.slot_str_join PySem.F.type_str_join mt_joinS (pe_strL [] (by decide +kernel)) (pa_cons (pv 5) pa_nil)) pa_nil))))))))), ?_⟩)
  · obtain ⟨_, _, _, _, rfl, _⟩ := h
    rfl
  · obtain ⟨b, r, b2, r2, rfl, h1, h2, q⟩ := h
    walk_at "rd"
    refine ⟨b, b2, rfl, h1.lt, h2.lt, ?_⟩
    walk_at "rd"
    refine r_ite (fun h => ?_) (fun h => ?_)
    · walk_at "rd"
      refine ⟨small (by show 2 ≤ 1000000; decide), fun p hp => ?_⟩
      refine q p _ (Evl.Ex.new hp) ?_
      rw [upd_same]
      have e : tog b r b2 r2 = [] := by
        unfold tog
        rw [if_neg (by omega)]
      rw [e]
    · have h24 : Nat.lcm b b2 ≤ 24 := by omega
      obtain ⟨l1, l2, l3, _⟩ := lcm_le h1.pos h2.pos
      obtain ⟨e1, e2⟩ := h1.row (by omega)
      obtain ⟨e3, e4⟩ := h2.row (by omega)
      have p1 := h1.pos
      have p2 := h2.pos
      have et : tog b r b2 r2 = (List.range (Nat.lcm b b2)).map (togF b r b2 r2) := by
        unfold tog
        rw [if_pos h24]
        rfl
      generalize hm : Nat.lcm b b2 = m at *
      walk_at "rd"
      refine ⟨small (by show 0 ≤ 1000000; decide), fun D hD => ?_⟩
      walk_at "rd"
      let J : Nat → L2.St → Hp → Prop := fun i σ' H' => ∃ o o2, σ' = [some (.int (b : Int)), some (.str (S r)), some (.int (b2 : Int)), some (.str (S r2)), some (.int (m : Int)), some (.ref D), o, o2] ∧ H' = upd H D (.lst (((List.range i).map (togF b r b2 r2)).map fun c => .str (S [c])))
      refine forR J ⟨_, _, rfl, rfl⟩ (fun i σ' H' hi hJ => ?_) (fun σ' H' hJ => ?_)
      · obtain ⟨o, o2, rfl, rfl⟩ := hJ
        have g1 : r[(((0 : Int) + (i : Int)) % (b : Int)).toNat]? = some ((r[i % b]?).getD 0) := by
          rw [show ((0 : Int) + (i : Int)) % (b : Int) = ((i % b : Nat) : Int) by rw [Int.zero_add, Int.natCast_emod], Int.toNat_natCast]
          exact getD_some (by rw [e1]; exact Nat.mod_lt _ p1)
        have g2 : r2[(((0 : Int) + (i : Int)) % (b2 : Int)).toNat]? = some ((r2[i % b2]?).getD 0) := by
          rw [show ((0 : Int) + (i : Int)) % (b2 : Int) = ((i % b2 : Nat) : Int) by rw [Int.zero_add, Int.natCast_emod], Int.toNat_natCast]
          exact getD_some (by rw [e3]; exact Nat.mod_lt _ p2)
        walk_at "rd"
        refine r_ixSS (small (by omega)) (Int.emod_nonneg _ (by omega)) g1 ?_
        walk_at "rd"
        refine ⟨.inl ⟨rfl, _, Evl.sq_of upd_same⟩, ?_⟩
        walk_at "rd"
        have fin : ∀ x, x = togF b r b2 r2 i → rAppend (.ref D) [.str (S [x])] (upd H D (.lst (((List.range i).map (togF b r b2 r2)).map fun c => .str (S [c])))) fun _ H1 => J (i + 1) [some (.int (b : Int)), some (.str (S r)), some (.int (b2 : Int)), some (.str (S r2)), some (.int (m : Int)), some (.ref D), some (.int ((0 : Int) + (i : Int))), some (.str (S [(r[i % b]?).getD 0]))] H1 := by
          intro x hx
          refine ⟨D, _, _, rfl, rfl, upd_same, ?_, _, _, rfl, ?_⟩
          · rw [List.length_map, List.length_map, List.length_range, sizeLine_eq]
            omega
          · rw [upd_upd, List.range_succ, List.map_append, List.map_append, hx]
            rfl
        refine r_ite (fun z => ?_) (fun z => ?_)
        · walk_at "rd"
          refine r_ixSS (small (by omega)) (Int.emod_nonneg _ (by omega)) g2 ?_
          exact fin _ (by unfold togF; rw [if_pos (by injection z)])
        · walk_at "rd"
          exact fin _ (by unfold togF; rw [if_neg (fun y => z (by rw [y]))])
      · obtain ⟨o, o2, rfl, rfl⟩ := hJ
        walk_at "rd"
        refine r_joinC (Evl.sq_of upd_same) (by rw [List.length_map, List.length_range]; omega) ?_
        walk_at "rd"
        refine ⟨small (by show 2 ≤ 1000000; decide), fun p hp => ?_⟩
        refine q p _ ((Evl.Ex.new hD).trans (Evl.Ex.new hp)) ?_
        rw [upd_same, et]
        rfl
def spSize (C : Addr) : Sp := fun vs H Q E => ∃ (l : List Nat) (i d : Nat) (ds : List Nat), vs = [.str (S l), .int (i : Int), .int ((i + (ds.length + 1) : Nat) : Int)] ∧ l.length ≤ 5000 ∧ dsOf (l.drop i) = d :: ds ∧ (d = 48 → Wish C "at" (.int (i : Int)) H E) ∧ (d ≠ 48 → Q (.int ((dval ((d :: ds).take 3) : Nat) : Int)) H)
theorem ds_get {l : List Nat} {i d : Nat} {ds : List Nat} (h : dsOf (l.drop i) = d :: ds) : l[i]? = some d ∧ i < l.length := by
  have e := ds_rs (l.drop i)
  rw [h] at e
  have e2 : l[i]? = some d := by
    have : (l.drop i)[0]? = some d := by rw [← e]; rfl
    rwa [List.getElem?_drop, Nat.add_zero] at this
  exact ⟨e2, (List.getElem?_eq_some_iff.mp e2).1⟩
theorem ds_take {l : List Nat} {i d : Nat} {ds : List Nat} {k : Nat} (h : dsOf (l.drop i) = d :: ds) (hk : k = min 3 (ds.length + 1)) : (l.drop i).take k = (d :: ds).take 3 := by
  have e := ds_rs (l.drop i)
  rw [h] at e
  rw [← e, List.take_append_of_le_length (by rw [List.length_cons]; omega), hk]
  rcases Nat.le_total 3 (ds.length + 1) with z | z
  · rw [Nat.min_eq_left z]
  · rw [Nat.min_eq_right z, List.take_of_length_le (by rw [List.length_cons]; omega), List.take_of_length_le (by rw [List.length_cons]; omega)]
abbrev s_size_of_run : Stmt := topS 20
abbrev N_size_of_run : List Str := ["text", "at", "end"]
theorem sc_size_of_run : FnScope ["text", "at", "end"] ["text", "at", "end"] (defScope s_size_of_run) := ⟨rfl, rfl, rfl, by decide +kernel, rfl, by decide +kernel, by decide +kernel⟩
theorem can_size_of_run (T : Bi mg) (F : Defd K mg "size_of_run" s_size_of_run ["text", "at", "end"]) {A_BadText : Addr} (E_BadText : Err P w K mg base "BadText" A_BadText "at") : Can P w K mg base (L2.CX P w) 3 "size_of_run" ["text", "at", "end"] (spSize A_BadText) := by
  refine canX F sc_size_of_run (fun vs H Q E h => ?_) (fun f cdv A outer s H vs Q E hr h => ⟨_, (pss_cons (ps_if (pt_cmpR op_eq (pe_ix ix_strS (pv 0) (pv 1) (fun _ _ => rfl)) (pe_strL [48] (by decide +kernel)) (nomark _)) (pss_one (ps_raise rfl (takes_of rfl rfl rfl rfl) (pmk_err E_BadText hr (by decide) rfl (pa_cons (pv 1) pa_nil)))) pss_nil)
  (pss_one (ps_ret (pe_callTy call_int_str (by rfl) T.b_int boot_int (pa_cons (pe_slice sl_strS (pv 0) (po_some (pv 1)) (po_some (pe_callB (call_min2 rfl) (by rfl) T.b_min boot_min (pa_cons (pv 2) (pa_cons (pe_op op_add (pv 1) pe_int) pa_nil))))) pa_nil))))), ?_⟩)
  · obtain ⟨_, _, _, _, rfl, _⟩ := h
    rfl
  · obtain ⟨l, i, d, ds, rfl, hl, hd, w1, q⟩ := h
    obtain ⟨g, gi⟩ := ds_get hd
    have g' : l[(i : Int).toNat]? = some d := by rw [Int.toNat_natCast]; exact g
    walk_at "rd"
    refine r_ixSS (small (by omega)) (by omega) g' ?_
    walk_at "rd"
    refine r_ite (fun h => ?_) (fun h => ?_)
    · walk_at "rd"
      exact r_mk (w1 (by injection h))
    · walk_at "rd"
      refine ⟨_, _, rfl, ?_⟩
      have ek : (if ((i : Int) + 3) < (((i + (ds.length + 1) : Nat)) : Int) then ((i : Int) + 3) else (((i + (ds.length + 1) : Nat)) : Int)) = ((i + min 3 (ds.length + 1) : Nat) : Int) := by
        split <;> omega
      rw [ek]
      walk_at "rd"
      rw [cut_mid (by omega) (by omega), Int.toNat_natCast, Int.toNat_natCast, show i + min 3 (ds.length + 1) - i = min 3 (ds.length + 1) by omega, ds_take hd rfl]
      have hx : ∀ c ∈ (d :: ds).take 3, isDig c = true := fun c hc => by
        have := ds_dig (l.drop i) c
        rw [hd] at this
        exact this (List.mem_of_mem_take hc)
      refine ⟨_, _, rfl, int_digits (by simp) (by rw [List.length_take]; omega) hx, ?_, q fun z => h (by rw [z])⟩
      rw [S_len, List.length_take]
      omega
def whl (s : List Nat) (b : Nat) : Option Nat := match dsOf s with
  | [] => none
  | d :: ds => if d = 48 then none else if b ≤ dval ((d :: ds).take 3) ∧ dval ((d :: ds).take 3) ≤ 24 then some (dval ((d :: ds).take 3)) else none
theorem rdWhole_eq (s : List Nat) (b : Nat) (row : List Nat) : rdWhole s b row = match whl s b with
  | none => .error s.length
  | some w => .ok (rsOf s, w, row ++ List.replicate (w - b) 46) := by
  unfold rdWhole whl
  cases dsOf s with
  | nil => rfl
  | cons d ds =>
    show (if d = 48 then _ else _) = _
    by_cases h : d = 48
    · rw [if_pos h]
      simp only [if_pos h]
    · rw [if_neg h]
      simp only [if_neg h]
      by_cases h2 : b ≤ dval ((d :: ds).take 3) ∧ dval ((d :: ds).take 3) ≤ 24
      · rw [if_pos h2]
        simp only [if_pos h2]
      · rw [if_neg h2]
        simp only [if_neg h2]
def spWhole (C : Addr) : Sp := fun vs H Q E => ∃ (l : List Nat) (i b : Nat), vs = [.str (S l), .int (i : Int), .int (b : Int)] ∧ l.length ≤ 5000 ∧ (whl (l.drop i) b = none → Wish C "at" (.int (i : Int)) H E) ∧
  ∀ w p H', whl (l.drop i) b = some w → Ex H H' → H' p = some (.tup [.int ((i + (dsOf (l.drop i)).length : Nat) : Int), .int (w : Int)]) → Q (.ref p) H'
abbrev s_read_whole : Stmt := topS 23
abbrev N_read_whole : List Str := ["text", "at", "beats", "end", "whole"]
theorem sc_read_whole : FnScope ["text", "at", "beats", "end", "whole"] ["text", "at", "beats"] (defScope s_read_whole) := ⟨rfl, rfl, rfl, by decide +kernel, rfl, by decide +kernel, by decide +kernel⟩
theorem can_read_whole (T : Bi mg) (F : Defd K mg "read_whole" s_read_whole ["text", "at", "beats"]) (c_MOST_BEATS : ∃ u, mg "MOST_BEATS" = some u ∧ RelV (.int 24) u) {A_BadText : Addr} (E_BadText : Err P w K mg base "BadText" A_BadText "at") (C_end_of_run : Can P w K mg base L2.CX0 1 "end_of_run" ["text", "at"] spEnd) (C_size_of_run : Can P w K mg base (L2.CX P w) 3 "size_of_run" ["text", "at", "end"] (spSize A_BadText)) : Can P w K mg base (L2.CX P w) 4 "read_whole" ["text", "at", "beats"] (spWhole A_BadText) := by
  refine canX F sc_read_whole (fun vs H Q E h => ?_) (fun f cdv A outer s H vs Q E hr h => ⟨_, (pss_cons (ps_set (i := 3) sc_read_whole.nd rfl (by first | exact Or.inl rfl | exact Or.inr rfl) (pe_can C_end_of_run hr (by decide) rfl (pa_cons (pv 0) (pa_cons (pv 1) pa_nil))))
  (pss_cons (ps_if (pt_cmpR op_eq (pv 3) (pv 1) (nomark _)) (pss_one (ps_raise rfl (takes_of rfl rfl rfl rfl) (pmk_err E_BadText hr (by decide) rfl (pa_cons (pv 1) pa_nil)))) pss_nil)
  (pss_cons (ps_set (i := 4) sc_read_whole.nd rfl (by first | exact Or.inl rfl | exact Or.inr rfl) (pe_canX C_size_of_run hr (by decide) rfl (passes_call (takes_of rfl rfl rfl rfl) (fun _ _ _ _ h => h)) (pa_cons (pv 0) (pa_cons (pv 1) (pa_cons (pv 3) pa_nil)))))
  (pss_cons (ps_if (pt_not (pt_chain op_le op_le (pv 2) (pv 4) (C8.pe_gc rfl c_MOST_BEATS))) (pss_one (ps_raise rfl (takes_of rfl rfl rfl rfl) (pmk_err E_BadText hr (by decide) rfl (pa_cons (pv 1) pa_nil)))) pss_nil)
  (pss_one (ps_ret (pe_tup (pa_cons (pv 3) (pa_cons (pv 4) pa_nil))))))))), ?_⟩)
  · obtain ⟨_, _, _, rfl, _⟩ := h
    rfl
  · obtain ⟨l, i, b, rfl, hl, w1, q⟩ := h
    walk_at "rd"
    refine ⟨l, i, rfl, by omega, ?_⟩
    walk_at "rd"
    cases hd : dsOf (l.drop i) with
    | nil =>
      refine r_ite (fun h => ?_) (fun h => absurd (by rw [List.length_nil, Nat.add_zero]) h)
      walk_at "rd"
      exact r_mk (w1 (by unfold whl; rw [hd]))
    | cons d ds =>
      refine r_ite (fun h => absurd h (by rw [List.length_cons]; omega)) (fun _ => ?_)
      walk_at "rd"
      refine ⟨l, i, d, ds, rfl, hl, hd, fun h => w1 (by unfold whl; rw [hd]; simp only [if_pos h]), fun h => ?_⟩
      walk_at "rd"
      have hw : whl (l.drop i) b = if b ≤ dval ((d :: ds).take 3) ∧ dval ((d :: ds).take 3) ≤ 24 then some (dval ((d :: ds).take 3)) else none := by
        unfold whl
        rw [hd]
        simp only [if_neg h]
      generalize dval ((d :: ds).take 3) = t at hw
      refine r_ite (fun h1 => ?_) (fun h1 => ?_)
      · walk_at "rd"
        refine r_iteN (fun h2 => ?_) (fun h2 => ?_)
        · walk_at "rd"
          exact r_mk (w1 (by rw [hw, if_neg (by omega)]))
        · walk_at "rd"
          refine ⟨small (by show 2 ≤ 1000000; decide), fun p hp => ?_⟩
          refine q t p _ (by rw [hw, if_pos (by omega)]) (Evl.Ex.new hp) ?_
          rw [upd_same, hd]
      · walk_at "rd"
        exact r_mk (w1 (by rw [hw, if_neg (by omega)]))
end
end Fk

set_option Elab.async false
set_option linter.all false
set_option maxRecDepth 100000
set_option maxHeartbeats 4000000
namespace Fk
open PySem PySem.Spec PyProof.Rows L2 Fg Rt
local macro_rules | `(tactic| walk_at "rd1") => `(tactic| first
  | with_reducible refine r_seq ?_
  | with_reducible refine r_asg ?_
  | with_reducible refine r_gname ?_
  | with_reducible refine r_gsub ?_
  | with_reducible refine r_ret ?_
  | with_reducible refine r_retN ?_
  | with_reducible refine r_next ?_
  | with_reducible refine r_drop ?_
  | with_reducible refine r_ifS ?_
  | with_reducible refine r_if ?_
  | with_reducible refine r_par ?_
  | with_reducible refine r_pair ?_
  | with_reducible refine r_test ?_
  | with_reducible refine r_tB ?_
  | with_reducible refine r_not ?_
  | with_reducible refine r_and ?_
  | with_reducible refine r_or ?_
  | with_reducible refine r_andV ?_
  | with_reducible refine r_orV ?_
  | with_reducible refine r_notV ?_
  | with_reducible refine r_nil ?_
  | with_reducible refine r_cons ?_
  | with_reducible refine r_call ?_
  | with_reducible refine r_callS ?_
  | with_reducible refine r_cb ?_
  | with_reducible refine r_then ?_
  | with_reducible refine r_tup ?_
  | with_reducible refine r_lst ?_
  | with_reducible refine r_sl ?_
  | with_reducible refine r_nopart ?_
  | with_reducible refine r_part ?_
  | with_reducible refine r_lcR1 ?_
  | with_reducible refine r_lcR2 ?_
  | with_reducible refine r_lcL ?_
  | with_reducible refine r_lcT ?_
  | with_reducible refine r_forR1 ?_
  | with_reducible refine r_forR2 ?_
  | with_reducible refine r_forL ?_
  | with_reducible refine r_forT ?_
  | with_reducible refine r_forE ?_
  | with_reducible refine r_strE ?_
  | ((with_reducible refine r_rng1 ?hc ?_); (case hc => omega))
  | ((with_reducible refine r_rng2 ?hc ?_); (case hc => omega))
  | ((with_reducible refine' r_refL ?hc ?_); (case hc => first | assumption | exact Evl.sq_of (by assumption)))
  | ((with_reducible refine' r_refT ?hc ?_); (case hc => first | assumption | exact Evl.st_of (by assumption)))
  | with_reducible refine r_op ?_
  | with_reducible refine r_un ?_
  | with_reducible refine r_chain ?_
  | ((with_reducible refine' r_var ?hv ?_); (case hv => exact rfl))
  | with_reducible refine r_cS ?_
  | with_reducible refine r_cs ?_
  | with_reducible refine r_c ?_
  | with_reducible refine r_yes ?_
  | with_reducible refine r_bm ?_
  | with_reducible refine r_bl ?_
  | with_reducible refine r_in ?_
  | with_reducible refine r_ty ?_
  | with_reducible refine r_I0 ?_
  | ((with_reducible refine r_I ?hc ?_); (case hc => first | assumption | (show (0 : Int) < _; decide) | exact Or.inr ⟨by decide, by decide⟩ | exact Or.inr ⟨by omega, by omega⟩ | exact Or.inl ⟨by decide, by decide⟩ | exact (show CDivW _ _ from ⟨by decide, by decide +kernel⟩) | exact (show CPowW _ _ from ⟨by decide, by decide +kernel⟩) | (show (0 : Int) < _; omega)))
  | with_reducible refine r_U ?_
  | with_reducible refine r_eqI ?_
  | with_reducible refine r_neI ?_
  | with_reducible refine r_eqS ?_
  | with_reducible refine r_neS ?_
  | with_reducible refine r_eqB ?_
  | with_reducible refine r_neB ?_
  | with_reducible refine r_niS ?_
  | with_reducible refine r_inSS ?_
  | ((with_reducible refine r_slSS ?hc ?_); (case hc => first | exact small (by omega) | exact small (by simp; omega)))
  | ((with_reducible refine r_lenS ?hc ?_); (case hc => first | exact small (by omega) | exact small (by simp; omega)))
  | ((with_reducible refine' r_lenL ?hc ?_); (case hc => first | assumption | exact Evl.sq_of (by assumption)))
  | ((with_reducible refine' r_lenT ?hc ?_); (case hc => first | assumption | exact Evl.st_of (by assumption)))
  | ((with_reducible refine' r_ixL ?h1 ?h2 ?h3 ?_); (case h1 => first | assumption | exact Evl.sq_of (by assumption) | exact Evl.sq_of upd_same); (case h2 => first | decide | omega); (case h3 => first | exact rfl | assumption))
  | ((with_reducible refine' r_ixT ?h1 ?h2 ?h3 ?_); (case h1 => first | assumption | exact Evl.st_of (by assumption)); (case h2 => first | decide | omega); (case h3 => first | exact rfl | assumption))
  | with_reducible refine r_T ?_
  | with_reducible refine r_notNn ?_
  | with_reducible refine r_notN_int ?_
  | with_reducible refine r_notN_str ?_
  | with_reducible refine r_notN_ref ?_
  | with_reducible refine r_isNn ?_
  | with_reducible refine r_isN_int ?_
  | with_reducible refine r_isN_str ?_
  | with_reducible refine r_isN_ref ?_
  | ((with_reducible refine' r_isi ?ht ?hk ?_); (case ht => first | exact .base (.int _) | exact .base (.bl _) | exact .base (.str _) | exact .base .non | exact .base (.lst (by assumption)) | exact .base (.tup (by assumption))); (case hk => first | exact kb_int_int | exact kb_int_bool | exact kb_int_str | exact kb_int_list | exact kb_int_tuple | exact kb_bool_int | exact kb_bool_bool | exact kb_bool_str | exact kb_bool_list | exact kb_bool_tuple | exact kb_str_int | exact kb_str_bool | exact kb_str_str | exact kb_str_list | exact kb_str_tuple | exact kb_NoneType_int | exact kb_NoneType_bool | exact kb_NoneType_str | exact kb_NoneType_list | exact kb_NoneType_tuple | exact kb_list_int | exact kb_list_bool | exact kb_list_str | exact kb_list_list | exact kb_list_tuple | exact kb_tuple_int | exact kb_tuple_bool | exact kb_tuple_str | exact kb_tuple_list | exact kb_tuple_tuple))
  | with_reducible refine r_F ?_
  | with_reducible refine r_nT ?_
  | with_reducible refine r_nF ?_
  | with_reducible refine r_mko ?_
  | with_reducible refine r_xf ?_
  | ((with_reducible refine' r_sum ?hc ?_); (case hc => first | assumption | exact Evl.sq_of (by assumption)))
  | ((with_reducible refine' r_setL ?h1 ?h2 ?h3 ?_); (case h1 => first | assumption | exact upd_same); (case h2 => first | decide | omega); (case h3 => first | (show _ < _; decide) | (simp; done)))
  | with_reducible refine r_int ?_
  | with_reducible refine r_abs ?_)
local macro_rules | `(tactic| walk_at "rd") => `(tactic| repeat (walk_at "rd1"))

section
variable {P : Program} {w : World} {K : PySem.W.Frag} {mg : Str → Option Value} {base : Heap}
def OutR (C : Addr) (l : List Nat) (o : Res) (H : Hp) (Q : VK) (E : XK) : Prop := match o with
  | .error e => Wish C "at" (.int ((l.length - e : Nat) : Int)) H E
  | .ok g => ∀ p H', Ex H H' → H' p = some (.tup [.int ((l.length - g.1.length : Nat) : Int), .int (g.2.1 : Int), .str (S g.2.2)]) → Q (.ref p) H'
theorem OutR.ex {C : Addr} {l : List Nat} {o : Res} {H H' : Hp} {Q : VK} {E : XK} (h : OutR C l o H Q E) (e : Ex H H') : OutR C l o H' Q E := by
  cases o with
  | error x => exact Wish.ex h e
  | ok g => exact fun p H2 e2 h2 => h p H2 (e.trans e2) h2
theorem OutR.bad {C : Addr} {l : List Nat} {o : Res} {H : Hp} {Q : VK} {E : XK} {e : Nat} {z : Int} (h : OutR C l o H Q E) (he : o = .error e) (hz : z = ((l.length - e : Nat) : Int)) : Wish C "at" (.int z) H E := by
  subst he
  rw [hz]
  exact h
theorem OutR.good {C : Addr} {l : List Nat} {o : Res} {H : Hp} {Q : VK} {E : XK} {g : Got} (h : OutR C l o H Q E) (he : o = .ok g) {p : Addr} {H' : Hp} (ex : Ex H H') {z y : Int} {r : List Nat} (hp : H' p = some (.tup [.int z, .int y, .str (S r)])) (hz : z = ((l.length - g.1.length : Nat) : Int)) (hy : y = (g.2.1 : Int)) (hr : r = g.2.2) : Q (.ref p) H' := by
  subst he
  subst hz hy hr
  exact h p H' ex hp
def spParts (C : Addr) (n : Nat) : Sp := fun vs H Q E => ∃ (l : List Nat) (i : Nat), vs = [.str (S l), .int (i : Int), .int (6 - (n : Int))] ∧ l.length ≤ 2000 ∧ i ≤ l.length ∧ OutR C l (rdAt n (decide (n = 6)) (l.drop i)) H Q E
def spBelow (C : Addr) : Nat → Sp
  | 0 => fun _ _ _ _ => False
  | n + 1 => spParts C n
def spItem (C : Addr) (n : Nat) : Sp := fun vs H Q E => ∃ (l : List Nat) (i : Nat), vs = [.str (S l), .int (i : Int), .int (6 - (n : Int))] ∧ n ≤ 6 ∧ l.length ≤ 2000 ∧ i ≤ l.length ∧ goes (l.drop i) = true ∧ OutR C l (rdItem (innerOf n) (l.drop i)) H Q E
theorem r_gtup3 {K : PySem.W.Frag} {σ : L2.St} {H : Hp} {a : Addr} {n i j m : Nat} {x y z : V} {Q : L2.St → Hp → Prop} (hn : n = 3) (h : SqT K H a [x, y, z]) (q : Q (((σ.set i (some x)).set j (some y)).set m (some z)) H) : gTup K n (gCons (gName i) (gCons (gName j) (gCons (gName m) gNil))) (.ref a) σ H Q := by
  subst hn
  exact ⟨a, [x, y, z], rfl, h, rfl, x, [y, z], rfl, y, [z], rfl, z, [], rfl, rfl, q⟩
theorem big_lt {k b : Nat} (hk : k ≤ 2000) (h : b ≤ 2 ^ (6 * k)) : b < 2 ^ 13000 := Nat.lt_of_le_of_lt h (Nat.pow_lt_pow_right (by decide) (by omega))
theorem flat_one (t c : Nat) : (List.replicate t [c]).flatten = List.replicate t c := by
  induction t with
  | zero => rfl
  | succ t ih => rw [List.replicate_succ, List.flatten_cons, ih, List.replicate_succ]; rfl
theorem one_le {l : List Nat} {i : Nat} : ((l.drop i).take 1).length ≤ 1 := by rw [List.length_take]; omega
abbrev s_read_item : Stmt := topS 24
abbrev N_read_item : List Str := ["text", "at", "deep", "end", "char", "times", "closing", "beats", "row"]
theorem sc_read_item : FnScope ["text", "at", "deep", "end", "char", "times", "closing", "beats", "row"] ["text", "at", "deep"] (defScope s_read_item) := ⟨rfl, rfl, rfl, by decide +kernel, rfl, by decide +kernel, by decide +kernel⟩
theorem can_read_item (T : Bi mg) (F : Defd K mg "read_item" s_read_item ["text", "at", "deep"]) {n k : Nat} (hk : 3 ≤ k) (c_LEAST_TIMES : ∃ u, mg "LEAST_TIMES" = some u ∧ RelV (.int 2) u) (c_MOST_TIMES : ∃ u, mg "MOST_TIMES" = some u ∧ RelV (.int 24) u) (c_MOST_DEEP : ∃ u, mg "MOST_DEEP" = some u ∧ RelV (.int 6) u) {A_BadText : Addr} (E_BadText : Err P w K mg base "BadText" A_BadText "at") (C_end_of_run : Can P w K mg base L2.CX0 1 "end_of_run" ["text", "at"] spEnd) (C_size_of_run : Can P w K mg base (L2.CX P w) 3 "size_of_run" ["text", "at", "end"] (spSize A_BadText)) (C_char_at : Can P w K mg base L2.CX0 1 "char_at" ["text", "at"] spChar) (C_is_sign : Can P w K mg base L2.CX0 1 "is_sign" ["thing"] spIsSign) (C_kept : Can P w K mg base L2.CX0 1 "kept" ["beats", "row"] spKept) (C_read_parts : Can P w K mg base (L2.CX P w) k "read_parts" ["text", "at", "deep"] (spBelow A_BadText n)) : Can P w K mg base (L2.CX P w) (k + 1) "read_item" ["text", "at", "deep"] (spItem A_BadText n) := by
  refine canX F sc_read_item (fun vs H Q E h => ?_) (fun f cdv A outer s H vs Q E hr h => ⟨_, (pss_cons (ps_set (i := 3) sc_read_item.nd rfl (by first | exact Or.inl rfl | exact Or.inr rfl) (pe_can C_end_of_run hr (by omega) rfl (pa_cons (pv 0) (pa_cons (pv 1) pa_nil))))
  (pss_cons (ps_set (i := 4) sc_read_item.nd rfl (by first | exact Or.inl rfl | exact Or.inr rfl) (pe_can C_char_at hr (by omega) rfl (pa_cons (pv 0) (pa_cons (pv 3) pa_nil))))
  (pss_cons (ps_if (pt_cmpR op_eq (pv 3) (pv 1) (nomark _)) (pss_one (ps_ret (pe_tup (pa_cons (pe_op op_add (pv 1) pe_int) (pa_cons pe_int (pa_cons (pv 4) pa_nil)))))) pss_nil)
  (pss_cons (ps_set (i := 5) sc_read_item.nd rfl (by first | exact Or.inl rfl | exact Or.inr rfl) (pe_canX C_size_of_run hr (by omega) rfl (passes_call (takes_of rfl rfl rfl rfl) (fun _ _ _ _ h => h)) (pa_cons (pv 0) (pa_cons (pv 1) (pa_cons (pv 3) pa_nil)))))
  (pss_cons (ps_if (PW.pt (pw_and (pt_not (pt_val (pe_can C_is_sign hr (by omega) rfl (pa_cons (pv 4) pa_nil)))) (pw_and1 (pt_cmpR op_ne (pv 4) (pe_strL [40] (by decide +kernel)) (nomark _))))) (pss_one (ps_raise rfl (takes_of rfl rfl rfl rfl) (pmk_err E_BadText hr (by omega) rfl (pa_cons (pv 3) pa_nil)))) pss_nil)
  (pss_cons (ps_if (pt_not (pt_chain op_le op_le (C8.pe_gc rfl c_LEAST_TIMES) (pv 5) (C8.pe_gc rfl c_MOST_TIMES))) (pss_one (ps_raise rfl (takes_of rfl rfl rfl rfl) (pmk_err E_BadText hr (by omega) rfl (pa_cons (pv 1) pa_nil)))) pss_nil)
  (pss_cons (ps_if (pt_val (pe_can C_is_sign hr (by omega) rfl (pa_cons (pv 4) pa_nil))) (pss_one (ps_ret (pe_tup (pa_cons (pe_op op_add (pv 3) pe_int) (pa_cons (pv 5) (pa_cons (pe_op op_repS (pv 4) (pv 5)) pa_nil)))))) pss_nil)
  (pss_cons (ps_if (pt_cmpR op_eq (pv 2) (C8.pe_gc rfl c_MOST_DEEP) (nomark _)) (pss_one (ps_raise rfl (takes_of rfl rfl rfl rfl) (pmk_err E_BadText hr (by omega) rfl (pa_cons (pv 3) pa_nil)))) pss_nil)
  (pss_cons (ps_asg (pe_canX C_read_parts hr (by omega) rfl (passes_call (takes_of rfl rfl rfl rfl) (fun _ _ _ _ h => h)) (pa_cons (pv 0) (pa_cons (pe_op op_add (pv 3) pe_int) (pa_cons (pe_op op_add (pv 2) pe_int) pa_nil)))) (pg_tup rfl (pgs_cons (pg_name (i := 6) sc_read_item.nd rfl (by first | exact Or.inl rfl | exact Or.inr rfl)) (pgs_cons (pg_name (i := 7) sc_read_item.nd rfl (by first | exact Or.inl rfl | exact Or.inr rfl)) (pgs_cons (pg_name (i := 8) sc_read_item.nd rfl (by first | exact Or.inl rfl | exact Or.inr rfl)) pgs_nil)))))
  (pss_one (ps_ret (pe_tup (pa_cons (pe_op op_add (pv 6) pe_int) (pa_cons (pe_op op_mulW (pv 5) (pv 7)) (pa_cons (pe_can C_kept hr (by omega) rfl (pa_cons (pe_op op_mulW (pv 5) (pv 7)) (pa_cons (pe_op op_repS (pv 8) (pv 5)) pa_nil))) pa_nil))))))))))))))), ?_⟩)
  · obtain ⟨_, _, rfl, _⟩ := h
    rfl
  · obtain ⟨l, i, rfl, hn, hl, hi, hg, q⟩ := h
    have sl : (l.drop i).length = l.length - i := List.length_drop
    walk_at "rd"
    refine ⟨l, i, rfl, by omega, ?_⟩
    walk_at "rd"
    refine ⟨l, _, rfl, by omega, ?_⟩
    walk_at "rd"
    have hrs := rs_drop (l.drop i)
    rw [List.drop_drop] at hrs
    rw [← hrs]
    cases hd : dsOf (l.drop i) with
    | nil =>
      refine r_ite (fun h => ?_) (fun h => absurd (by rw [List.length_nil, Nat.add_zero]) h)
      walk_at "rd"
      have hr0 : rsOf (l.drop i) = l.drop i := by rw [hrs, hd, List.length_nil, Nat.add_zero]
      have s1 : 1 ≤ (l.drop i).length := by
        cases hs : l.drop i with
        | nil => rw [hs] at hg; cases hg
        | cons a b => simp
      have ho : rdItem (innerOf n) (l.drop i) = .ok ((l.drop i).drop 1, 1, (l.drop i).take 1) := by
        unfold rdItem
        rw [hd]
      refine ⟨small (by show 3 ≤ 1000000; decide), fun p hp => ?_⟩
      refine q.good ho (Evl.Ex.new hp) upd_same ?_ rfl (by rw [hr0])
      show (i : Int) + 1 = ((l.length - ((l.drop i).drop 1).length : Nat) : Int)
      rw [List.length_drop]
      omega
    | cons d ds =>
      refine r_ite (fun h => absurd h (by rw [List.length_cons]; omega)) (fun _ => ?_)
      walk_at "rd"
      have hlr := len_rs (l.drop i)
      rw [hd, List.length_cons] at hlr
      have ho0 : d = 48 → rdItem (innerOf n) (l.drop i) = .error (l.drop i).length := fun h => by
        unfold rdItem
        rw [hd]
        simp only [if_pos h]
      refine ⟨l, i, d, ds, rfl, by omega, hd, fun h => q.bad (ho0 h) (by rw [sl]; omega), fun h48 => ?_⟩
      clear ho0
      walk_at "rd"
      cases hc : rsOf (l.drop i) with
      | nil =>
        have ho : rdItem (innerOf n) (l.drop i) = .error 0 := by
          unfold rdItem
          rw [hd]
          simp only [if_neg h48]
          rw [hc]
        rw [hc] at hlr
        refine ⟨[], rfl, by decide, ?_⟩
        walk_at "rd"
        refine r_iteN (fun _ => ?_) (fun z => absurd z (by decide))
        walk_at "rd"
        refine r_mk (q.bad ho ?_)
        rw [List.length_nil] at hlr
        rw [List.length_cons]
        omega
      | cons c r =>
        rw [hc, List.length_cons] at hlr
        have ho : rdItem (innerOf n) (l.drop i) = (if isSg c = true then (if 2 ≤ dval ((d :: ds).take 3) ∧ dval ((d :: ds).take 3) ≤ 24 then .ok (r, dval ((d :: ds).take 3), List.replicate (dval ((d :: ds).take 3)) c) else .error (l.drop i).length)
          else if c = 40 then (if 2 ≤ dval ((d :: ds).take 3) ∧ dval ((d :: ds).take 3) ≤ 24 then grp (innerOf n) (dval ((d :: ds).take 3)) r else .error (l.drop i).length)
          else .error (r.length + 1)) := by
          unfold rdItem
          rw [hd]
          simp only [if_neg h48]
          rw [hc]
        have er : r = l.drop (i + (ds.length + 1) + 1) := by
          have e : (c :: r).drop 1 = (l.drop (i + (ds.length + 1))).drop 1 := by rw [← hc, hrs, hd, List.length_cons]
          rw [List.drop_drop] at e
          simpa using e
        have le24 : dval ((d :: ds).take 3) ≤ 24 → dval ((d :: ds).take 3) < 2 ^ 10 := fun z => by omega
        generalize dval ((d :: ds).take 3) = t at ho le24 ⊢
        refine ⟨[c], rfl, Nat.le_refl 1, ?_⟩
        walk_at "rd"
        -- behind the first test
        refine r_iteNB (fun hs => ?_) (fun hs => ?_)
        · have hs' : isSg c = false := hs
          rw [hs', if_neg (by decide)] at ho
          walk_at "rd"
          refine r_iteN (fun h40 => ?_) (fun h40 => ?_)
          · have n40 : c ≠ 40 := fun z => h40 (by rw [z]; rfl)
            rw [if_neg n40] at ho
            walk_at "rd"
            refine r_mk (q.bad ho ?_)
            rw [List.length_cons]
            omega
          · have e40 : c = 40 := by injection h40
            subst e40
            rw [if_pos rfl] at ho
            walk_at "rd"
            refine r_ite (fun t2 => ?_) (fun t2 => ?_)
            · walk_at "rd"
              refine r_iteN (fun t24 => ?_) (fun t24 => ?_)
              · rw [if_neg (by omega)] at ho
                walk_at "rd"
                exact r_mk (q.bad ho (by rw [sl]; omega))
              · rw [if_pos (by omega)] at ho
                walk_at "rd"
                refine ⟨[40], rfl, Nat.le_refl 1, ?_⟩
                walk_at "rd"
                refine r_iteB (fun z => absurd (z.symm.trans hs) (by decide)) (fun _ => ?_)
                walk_at "rd"
                refine r_ite (fun hn6 => ?_) (fun hn6 => ?_)
                · have n0 : n = 0 := by omega
                  subst n0
                  walk_at "rd"
                  refine r_mk (q.bad ho ?_)
                  rw [List.length_cons]
                  omega
                · obtain ⟨m, rfl⟩ : ∃ m, n = m + 1 := ⟨n - 1, by omega⟩
                  have e1 : ((i + (d :: ds).length : Nat) : Int) + 1 = ((i + (ds.length + 1) + 1 : Nat) : Int) := by rw [List.length_cons]; omega
                  have e2 : (6 : Int) - ((m + 1 : Nat) : Int) + 1 = 6 - (m : Int) := by omega
                  have hm6 : decide (m = 6) = false := decide_eq_false (by omega)
                  walk_at "rd"
                  refine ⟨l, i + (ds.length + 1) + 1, by rw [e1, e2]; rfl, hl, by omega, ?_⟩
                  rw [← er, hm6]
                  have ho2 : rdItem (innerOf (m + 1)) (l.drop i) = match rdAt m false r with
                    | .error e => .error e
                    | .ok (r2, b, row) => .ok (r2.drop 1, t * b, kept (t * b) (rep t row)) := ho
                  cases ha : rdAt m false r with
                  | error e =>
                    rw [ha] at ho2
                    exact q.bad ho2 rfl
                  | ok g =>
                    obtain ⟨r2, b, row⟩ := g
                    rw [ha] at ho2
                    obtain ⟨Fi, ne⟩ := ok_at m false r _ ha
                    have ne2 : r2 ≠ [] := ne rfl
                    obtain ⟨k1, k2, k3, k4, k5⟩ := Fi.suf
                    have k4' : r2 = r.drop k1 := k4
                    have k5' : b ≤ 2 ^ (6 * k1) := k5
                    have rl : r2.length = r.length - k1 := by rw [k4', List.length_drop]
                    have r1 : 1 ≤ r2.length := by
                      cases r2 with
                      | nil => exact absurd rfl ne2
                      | cons a b => simp
                    have hmul : CMulW (t : Int) (b : Int) := wide_mul (a := 10) (b := 13000) (by rw [Int.natAbs_natCast]; omega) (by rw [Int.natAbs_natCast]; exact big_lt (by omega) k5') (by decide) (by decide) (by decide)
                    have rw24 : row.length ≤ 24 := by
                      rcases Nat.lt_or_ge 24 b with z | z
                      · rw [show row = [] from Fi.non z]; exact Nat.zero_le _
                      · rw [show row.length = b from (Fi.row z).1]; exact z
                    have hrep : row.length * t ≤ 1000 := Nat.le_trans (Nat.mul_le_mul rw24 (show t ≤ 24 by omega)) (by decide)
                    intro p H1 ex1 hp
                    walk_at "rd"
                    refine r_gtup3 rfl (Evl.st_of hp) ?_
                    walk_at "rd"
                    refine r_repS (by omega) (by omega) (small (by rw [Int.toNat_natCast]; exact Nat.le_trans hrep (by decide))) ?_
                    walk_at "rd"
                    refine ⟨t * b, rep t row, by rw [Int.natCast_mul, Int.toNat_natCast]; rfl, ?_⟩
                    walk_at "rd"
                    refine ⟨small (by show 3 ≤ 1000000; decide), fun p2 hp2 => ?_⟩
                    refine q.good ho2 (ex1.trans (Evl.Ex.new hp2)) upd_same ?_ (by rw [Int.natCast_mul]) rfl
                    show ((l.length - r2.length : Nat) : Int) + 1 = ((l.length - (r2.drop 1).length : Nat) : Int)
                    rw [List.length_drop]
                    omega
            · rw [if_neg (by omega)] at ho
              walk_at "rd"
              exact r_mk (q.bad ho (by rw [sl]; omega))
        · have hs' : isSg c = true := hs
          rw [if_pos hs'] at ho
          walk_at "rd"
          refine r_ite (fun t2 => ?_) (fun t2 => ?_)
          · walk_at "rd"
            refine r_iteN (fun t24 => ?_) (fun t24 => ?_)
            · rw [if_neg (by omega)] at ho
              walk_at "rd"
              exact r_mk (q.bad ho (by rw [sl]; omega))
            · rw [if_pos (by omega)] at ho
              walk_at "rd"
              refine ⟨[c], rfl, Nat.le_refl 1, ?_⟩
              walk_at "rd"
              refine r_iteB (fun _ => ?_) (fun z => absurd (z.symm.trans hs) (by decide))
              walk_at "rd"
              refine r_repS (by omega) (by omega) (small (by rw [Int.toNat_natCast]; show 1 * t ≤ _; omega)) ?_
              walk_at "rd"
              refine ⟨small (by show 3 ≤ 1000000; decide), fun p hp => ?_⟩
              refine q.good ho (Evl.Ex.new hp) upd_same ?_ rfl ?_
              · show ((i + (d :: ds).length : Nat) : Int) + 1 = ((l.length - r.length : Nat) : Int)
                rw [List.length_cons]
                omega
              · rw [Int.toNat_natCast]
                exact flat_one t c
          · rw [if_neg (by omega)] at ho
            walk_at "rd"
            exact r_mk (q.bad ho (by rw [sl]; omega))
end
end Fk

set_option Elab.async false
set_option linter.all false
set_option maxRecDepth 100000
set_option maxHeartbeats 4000000
namespace Fk
open PySem PySem.Spec PyProof.Rows L2 Fg Rt
local macro_rules | `(tactic| walk_at "rd1") => `(tactic| first
  | with_reducible refine r_seq ?_
  | with_reducible refine r_asg ?_
  | with_reducible refine r_gname ?_
  | with_reducible refine r_gsub ?_
  | with_reducible refine r_ret ?_
  | with_reducible refine r_retN ?_
  | with_reducible refine r_next ?_
  | with_reducible refine r_drop ?_
  | with_reducible refine r_ifS ?_
  | with_reducible refine r_if ?_
  | with_reducible refine r_par ?_
  | with_reducible refine r_pair ?_
  | with_reducible refine r_test ?_
  | with_reducible refine r_tB ?_
  | with_reducible refine r_not ?_
  | with_reducible refine r_and ?_
  | with_reducible refine r_or ?_
  | with_reducible refine r_andV ?_
  | with_reducible refine r_orV ?_
  | with_reducible refine r_notV ?_
  | with_reducible refine r_nil ?_
  | with_reducible refine r_cons ?_
  | with_reducible refine r_call ?_
  | with_reducible refine r_callS ?_
  | with_reducible refine r_cb ?_
  | with_reducible refine r_then ?_
  | with_reducible refine r_tup ?_
  | with_reducible refine r_lst ?_
  | with_reducible refine r_sl ?_
  | with_reducible refine r_nopart ?_
  | with_reducible refine r_part ?_
  | with_reducible refine r_lcR1 ?_
  | with_reducible refine r_lcR2 ?_
  | with_reducible refine r_lcL ?_
  | with_reducible refine r_lcT ?_
  | with_reducible refine r_forR1 ?_
  | with_reducible refine r_forR2 ?_
  | with_reducible refine r_forL ?_
  | with_reducible refine r_forT ?_
  | with_reducible refine r_forE ?_
  | with_reducible refine r_strE ?_
  | ((with_reducible refine r_rng1 ?hc ?_); (case hc => omega))
  | ((with_reducible refine r_rng2 ?hc ?_); (case hc => omega))
  | ((with_reducible refine' r_refL ?hc ?_); (case hc => first | assumption | exact Evl.sq_of (by assumption)))
  | ((with_reducible refine' r_refT ?hc ?_); (case hc => first | assumption | exact Evl.st_of (by assumption)))
  | with_reducible refine r_op ?_
  | with_reducible refine r_un ?_
  | with_reducible refine r_chain ?_
  | ((with_reducible refine' r_var ?hv ?_); (case hv => exact rfl))
  | with_reducible refine r_cS ?_
  | with_reducible refine r_cs ?_
  | with_reducible refine r_c ?_
  | with_reducible refine r_yes ?_
  | with_reducible refine r_bm ?_
  | with_reducible refine r_bl ?_
  | with_reducible refine r_in ?_
  | with_reducible refine r_ty ?_
  | with_reducible refine r_I0 ?_
  | ((with_reducible refine r_I ?hc ?_); (case hc => first | assumption | (show (0 : Int) < _; decide) | exact Or.inr ⟨by decide, by decide⟩ | exact Or.inr ⟨by omega, by omega⟩ | exact Or.inl ⟨by decide, by decide⟩ | exact (show CDivW _ _ from ⟨by decide, by decide +kernel⟩) | exact (show CPowW _ _ from ⟨by decide, by decide +kernel⟩) | (show (0 : Int) < _; omega)))
  | with_reducible refine r_U ?_
  | with_reducible refine r_eqI ?_
  | with_reducible refine r_neI ?_
  | with_reducible refine r_eqS ?_
  | with_reducible refine r_neS ?_
  | with_reducible refine r_eqB ?_
  | with_reducible refine r_neB ?_
  | with_reducible refine r_niS ?_
  | with_reducible refine r_inSS ?_
  | ((with_reducible refine r_slSS ?hc ?_); (case hc => first | exact small (by omega) | exact small (by simp; omega)))
  | ((with_reducible refine r_lenS ?hc ?_); (case hc => first | exact small (by omega) | exact small (by simp; omega)))
  | ((with_reducible refine' r_lenL ?hc ?_); (case hc => first | assumption | exact Evl.sq_of (by assumption)))
  | ((with_reducible refine' r_lenT ?hc ?_); (case hc => first | assumption | exact Evl.st_of (by assumption)))
  | ((with_reducible refine' r_ixL ?h1 ?h2 ?h3 ?_); (case h1 => first | assumption | exact Evl.sq_of (by assumption) | exact Evl.sq_of upd_same); (case h2 => first | decide | omega); (case h3 => first | exact rfl | assumption))
  | ((with_reducible refine' r_ixT ?h1 ?h2 ?h3 ?_); (case h1 => first | assumption | exact Evl.st_of (by assumption)); (case h2 => first | decide | omega); (case h3 => first | exact rfl | assumption))
  | with_reducible refine r_T ?_
  | with_reducible refine r_notNn ?_
  | with_reducible refine r_notN_int ?_
  | with_reducible refine r_notN_str ?_
  | with_reducible refine r_notN_ref ?_
  | with_reducible refine r_isNn ?_
  | with_reducible refine r_isN_int ?_
  | with_reducible refine r_isN_str ?_
  | with_reducible refine r_isN_ref ?_
  | ((with_reducible refine' r_isi ?ht ?hk ?_); (case ht => first | exact .base (.int _) | exact .base (.bl _) | exact .base (.str _) | exact .base .non | exact .base (.lst (by assumption)) | exact .base (.tup (by assumption))); (case hk => first | exact kb_int_int | exact kb_int_bool | exact kb_int_str | exact kb_int_list | exact kb_int_tuple | exact kb_bool_int | exact kb_bool_bool | exact kb_bool_str | exact kb_bool_list | exact kb_bool_tuple | exact kb_str_int | exact kb_str_bool | exact kb_str_str | exact kb_str_list | exact kb_str_tuple | exact kb_NoneType_int | exact kb_NoneType_bool | exact kb_NoneType_str | exact kb_NoneType_list | exact kb_NoneType_tuple | exact kb_list_int | exact kb_list_bool | exact kb_list_str | exact kb_list_list | exact kb_list_tuple | exact kb_tuple_int | exact kb_tuple_bool | exact kb_tuple_str | exact kb_tuple_list | exact kb_tuple_tuple))
  | with_reducible refine r_F ?_
  | with_reducible refine r_nT ?_
  | with_reducible refine r_nF ?_
  | with_reducible refine r_mko ?_
  | with_reducible refine r_xf ?_
  | ((with_reducible refine' r_sum ?hc ?_); (case hc => first | assumption | exact Evl.sq_of (by assumption)))
  | ((with_reducible refine' r_setL ?h1 ?h2 ?h3 ?_); (case h1 => first | assumption | exact upd_same); (case h2 => first | decide | omega); (case h3 => first | (show _ < _; decide) | (simp; done)))
  | with_reducible refine r_int ?_
  | with_reducible refine r_abs ?_)
local macro_rules | `(tactic| walk_at "rd") => `(tactic| repeat (walk_at "rd1"))

section
variable {P : Program} {w : World} {K : PySem.W.Frag} {mg : Str → Option Value} {base : Heap}
def spPart (C : Addr) (n : Nat) : Sp := fun vs H Q E => ∃ (l : List Nat) (i : Nat), vs = [.str (S l), .int (i : Int), .int (6 - (n : Int))] ∧ n ≤ 6 ∧ l.length ≤ 2000 ∧ i ≤ l.length ∧ OutR C l (rdPart (rdItem (innerOf n)) (l.drop i)) H Q E
theorem suf_pos {l s2 : List Nat} {j b : Nat} {r : List Nat} (F : Fine (l.drop j) (s2, b, r)) (hj : j ≤ l.length) : l.drop (l.length - s2.length) = s2 ∧ l.length - s2.length ≤ l.length ∧ j < l.length - s2.length := by
  obtain ⟨k, k1, k2, k3, _⟩ := F.suf
  have k3' : s2 = (l.drop j).drop k := k3
  rw [List.length_drop] at k2
  have e : s2.length = l.length - j - k := by rw [k3', List.length_drop, List.length_drop]
  refine ⟨?_, by omega, by omega⟩
  rw [e, show l.length - (l.length - j - k) = j + k by omega, k3', List.drop_drop]
theorem take_one (c : Nat) (r : List Nat) : (c :: r).take 1 = [c] := rfl
theorem items_stop {item : List Nat → Res} {s : List Nat} (h : goes s = false) : ∀ (f b : Nat) (r : List Nat), rdItems item f s b r = .ok (s, b, r)
  | 0, b, r => rfl
  | f + 1, b, r => by
    unfold rdItems
    rw [h]
    rfl
theorem items_go {item : List Nat → Res} {s : List Nat} {f b : Nat} {r : List Nat} (h : goes s = true) : rdItems item (f + 1) s b r = match item s with
  | .error e => .error e
  | .ok (s2, m, g) => rdItems item f s2 (b + m) (kept (b + m) (r ++ g)) := by
  show (if goes s = true then _ else _) = _
  rw [if_pos h]
  all_goals (cases item s <;> rfl)
theorem whl_le {s : List Nat} {b w : Nat} (h : whl s b = some w) : b ≤ w ∧ w ≤ 24 := by
  unfold whl at h
  split at h
  · cases h
  · split at h
    · cases h
    · split at h
      · cases h
        assumption
      · cases h
theorem row24 {b : Nat} {r : List Nat} (h : b ≤ 24 → r.length = b ∧ ∀ c ∈ r, isSg c = true) (k : 24 < b → r = []) : r.length ≤ 24 := by
  rcases Nat.lt_or_ge 24 b with z | z
  · rw [k z]; exact Nat.zero_le _
  · rw [(h z).1]; exact z
abbrev s_read_part : Stmt := topS 22
abbrev N_read_part : List Str := ["text", "at", "deep", "char", "beats", "row", "whole", "more", "signs"]
theorem sc_read_part : FnScope ["text", "at", "deep", "char", "beats", "row", "whole", "more", "signs"] ["text", "at", "deep"] (defScope s_read_part) := ⟨rfl, rfl, rfl, by decide +kernel, rfl, by decide +kernel, by decide +kernel⟩
theorem can_read_part (T : Bi mg) (F : Defd K mg "read_part" s_read_part ["text", "at", "deep"]) {n k : Nat} (hk : 3 ≤ k) (c_DIGITS : ∃ u, mg "DIGITS" = some u ∧ RelV (.str (S DGL)) u) (c_DARK : ∃ u, mg "DARK" = some u ∧ RelV (.str (S [46])) u) {A_BadText : Addr} (E_BadText : Err P w K mg base "BadText" A_BadText "at") (C_char_at : Can P w K mg base L2.CX0 1 "char_at" ["text", "at"] spChar) (C_is_sign : Can P w K mg base L2.CX0 1 "is_sign" ["thing"] spIsSign) (C_kept : Can P w K mg base L2.CX0 1 "kept" ["beats", "row"] spKept) (C_read_whole : Can P w K mg base (L2.CX P w) 4 "read_whole" ["text", "at", "beats"] (spWhole A_BadText)) (C_read_item : Can P w K mg base (L2.CX P w) (k + 1) "read_item" ["text", "at", "deep"] (spItem A_BadText n)) : Can P w K mg base (L2.CX P w) (k + 2) "read_part" ["text", "at", "deep"] (spPart A_BadText n) := by
  refine canX F sc_read_part (fun vs H Q E h => ?_) (fun f cdv A outer s H vs Q E hr h => ⟨_, (pss_cons (ps_asg (pe_tup (pa_cons pe_int (pa_cons (pe_strL [] (by decide +kernel)) pa_nil))) (pg_tup rfl (pgs_cons (pg_name (i := 4) sc_read_part.nd rfl (by first | exact Or.inl rfl | exact Or.inr rfl)) (pgs_cons (pg_name (i := 5) sc_read_part.nd rfl (by first | exact Or.inl rfl | exact Or.inr rfl)) pgs_nil))))
  (pss_cons (ps_set (i := 3) sc_read_part.nd rfl (by first | exact Or.inl rfl | exact Or.inr rfl) (pe_can C_char_at hr (by omega) rfl (pa_cons (pv 0) (pa_cons (pv 1) pa_nil))))
  (Evl.pss_cut (ps_while PassesOwn.leaving (PW.pt (pw_or (pt_val (pe_can C_is_sign hr (by omega) rfl (pa_cons (pv 3) pa_nil))) (pw_or1 (PW.pt (pw_and (pt_cmpR op_ne (pv 3) (pe_strL [] (by decide +kernel)) (nomark _)) (pw_and1 (pt_cmpR op_inSS (pv 3) (C8.pe_gc rfl c_DIGITS) (by rfl)))))))) (pss_cons (ps_asg (pe_canX C_read_item hr (by omega) rfl (passes_call (takes_of rfl rfl rfl rfl) (fun _ _ _ _ h => h)) (pa_cons (pv 0) (pa_cons (pv 1) (pa_cons (pv 2) pa_nil)))) (pg_tup rfl (pgs_cons (pg_name (i := 1) sc_read_part.nd rfl (by first | exact Or.inl rfl | exact Or.inr rfl)) (pgs_cons (pg_name (i := 7) sc_read_part.nd rfl (by first | exact Or.inl rfl | exact Or.inr rfl)) (pgs_cons (pg_name (i := 8) sc_read_part.nd rfl (by first | exact Or.inl rfl | exact Or.inr rfl)) pgs_nil)))))
  (pss_cons (ps_set (i := 4) sc_read_part.nd rfl (by first | exact Or.inl rfl | exact Or.inr rfl) (pe_op op_add (pv 4) (pv 7)))
  (pss_cons (ps_set (i := 5) sc_read_part.nd rfl (by first | exact Or.inl rfl | exact Or.inr rfl) (pe_can C_kept hr (by omega) rfl (pa_cons (pv 4) (pa_cons (pe_op op_catS (pv 5) (pv 8)) pa_nil))))
  (pss_one (ps_set (i := 3) sc_read_part.nd rfl (by first | exact Or.inl rfl | exact Or.inr rfl) (pe_can C_char_at hr (by omega) rfl (pa_cons (pv 0) (pa_cons (pv 1) pa_nil)))))))))
  (pss_cons (ps_if (pt_cmpR op_eq (pv 4) pe_int (nomark _)) (pss_one (ps_raise rfl (takes_of rfl rfl rfl rfl) (pmk_err E_BadText hr (by omega) rfl (pa_cons (pv 1) pa_nil)))) pss_nil)
  (pss_cons (ps_if (pt_cmpR op_ne (pv 3) (pe_strL [64] (by decide +kernel)) (nomark _)) (pss_one (ps_ret (pe_tup (pa_cons (pv 1) (pa_cons (pv 4) (pa_cons (pv 5) pa_nil)))))) pss_nil)
  (pss_cons (ps_asg (pe_canX C_read_whole hr (by omega) rfl (passes_call (takes_of rfl rfl rfl rfl) (fun _ _ _ _ h => h)) (pa_cons (pv 0) (pa_cons (pe_op op_add (pv 1) pe_int) (pa_cons (pv 4) pa_nil)))) (pg_tup rfl (pgs_cons (pg_name (i := 1) sc_read_part.nd rfl (by first | exact Or.inl rfl | exact Or.inr rfl)) (pgs_cons (pg_name (i := 6) sc_read_part.nd rfl (by first | exact Or.inl rfl | exact Or.inr rfl)) pgs_nil))))
  (pss_one (ps_ret (pe_tup (pa_cons (pv 1) (pa_cons (pv 6) (pa_cons (pe_op op_catS (pv 5) (pe_op op_repS (C8.pe_gc rfl c_DARK) (pe_op op_sub (pv 6) (pv 4)))) pa_nil)))))))))))), ?_⟩)
  · obtain ⟨_, _, rfl, _⟩ := h
    rfl
  · obtain ⟨l, i, rfl, hn, hl, hi, q⟩ := h
    walk_at "rd"
    refine ⟨small (by show 2 ≤ 1000000; decide), fun p0 hp0 => ?_⟩
    have ex0 := Evl.Ex.new (o := .tup [.int 0, .str (S [])]) hp0
    refine r_gtup2 (Evl.st_of upd_same) ?_
    generalize upd H p0 (.tup [.int 0, .str (S [])]) = H0 at ex0 ⊢
    walk_at "rd"
    refine ⟨l, i, rfl, by omega, ?_⟩
    walk_at "rd"
    replace q := q.ex ex0
    clear ex0 hp0
    generalize hit : rdItem (innerOf n) = item at q
    have oki : Ok item (fun s => goes s = true) := by rw [← hit]; exact ok_item (inner_ok n)
    refine r_cut (Mid := fun σ' H' => ∃ (j b : Nat) (r : List Nat) (o6 o7 o8 : Option V), σ' = [some (.str (S l)), some (.int (j : Int)), some (.int (6 - (n : Int))), some (.str (S ((l.drop j).take 1))), some (.int (b : Int)), some (.str (S r)), o6, o7, o8] ∧ Ex H0 H' ∧ j ≤ l.length ∧ Far (l.drop i) (l.drop j) b r ∧ rdItems item (l.drop i).length (l.drop i) 0 [] = .ok (l.drop j, b, r)) ?_ ?_
    · let WW : Nat → L2.St → Hp → Prop := fun m σ' H' => ∃ (j b f : Nat) (r : List Nat) (o6 o7 o8 : Option V), σ' = [some (.str (S l)), some (.int (j : Int)), some (.int (6 - (n : Int))), some (.str (S ((l.drop j).take 1))), some (.int (b : Int)), some (.str (S r)), o6, o7, o8] ∧ Ex H0 H' ∧ j ≤ l.length ∧ m + j = l.length ∧ l.length - j ≤ f ∧ Far (l.drop i) (l.drop j) b r ∧ rdItems item (l.drop i).length (l.drop i) 0 [] = rdItems item f (l.drop j) b r
      refine ⟨WW, ⟨l.length - i, i, 0, (l.drop i).length, [], _, _, _, rfl, Evl.Ex.refl _, hi, by omega, by rw [List.length_drop]; omega, far_start _, rfl⟩, fun m σ' H1 hW => ?_⟩
      obtain ⟨j, b, f', r, o6, o7, o8, rfl, ex1, hj, hm, hf, Fa, hT⟩ := hW
      have r24 : r.length ≤ 24 := row24 Fa.row Fa.non
      have jl : (l.drop j).length = l.length - j := List.length_drop
      have stop : goes (l.drop j) = false → ∃ (j2 b2 : Nat) (r2 : List Nat) (p6 p7 p8 : Option V), [some (.str (S l)), some (.int (j : Int)), some (.int (6 - (n : Int))), some (.str (S ((l.drop j).take 1))), some (.int (b : Int)), some (.str (S r)), o6, o7, o8] = [some (.str (S l)), some (.int (j2 : Int)), some (.int (6 - (n : Int))), some (.str (S ((l.drop j2).take 1))), some (.int (b2 : Int)), some (.str (S r2)), p6, p7, p8] ∧ Ex H0 H1 ∧ j2 ≤ l.length ∧ Far (l.drop i) (l.drop j2) b2 r2 ∧ rdItems item (l.drop i).length (l.drop i) 0 [] = .ok (l.drop j2, b2, r2) := fun hg =>
        ⟨j, b, r, _, _, _, rfl, ex1, hj, Fa, by rw [hT, items_stop hg]⟩
      walk_at "rd"
      cases hs : l.drop j with
      | nil =>
        rw [hs] at stop
        refine ⟨[], rfl, by decide, ?_⟩
        walk_at "rd"
        refine r_iteN (fun z => absurd rfl z) (fun _ => ?_)
        walk_at "rd"
        exact stop rfl
      | cons c rest =>
        have jp : 1 ≤ l.length - j := by
          have e := jl
          rw [hs, List.length_cons] at e
          omega
        refine ⟨[c], rfl, Nat.le_refl 1, ?_⟩
        walk_at "rd"
        refine r_iteB (fun hc => ?_) (fun hc => ?_)
        · have hg : goes (l.drop j) = true := by
            rw [hs]
            show (isSg c || isDig c) = true
            rw [show isSg c = true from hc]
            rfl
          walk_at "rd"
          obtain ⟨f2, rfl⟩ : ∃ x, f' = x + 1 := ⟨f' - 1, by omega⟩
          refine ⟨fun σ2 H2 => ∃ m', m' < m ∧ WW m' σ2 H2, fun σ2 H2 z => z, ?_⟩
          walk_at "rd"
          refine ⟨l, j, rfl, hn, hl, hj, hg, ?_⟩
          rw [hit]
          rw [items_go hg] at hT
          cases hx : item (l.drop j) with
          | error e =>
            rw [hx] at hT
            exact (q.ex ex1).bad (e := e) (by unfold rdPart; rw [hT]) rfl
          | ok g0 =>
            obtain ⟨s2, m2, g⟩ := g0
            rw [hx] at hT
            have G := oki _ _ hg hx
            obtain ⟨d1, d2, d3⟩ := suf_pos G hj
            obtain ⟨Fb, _⟩ := far_step Fa G
            have g24 : g.length ≤ 24 := row24 (fun z => G.row z) (fun z => G.non z)
            intro p H2 ex2 hp
            walk_at "rd"
            refine r_gtup3 rfl (Evl.st_of hp) ?_
            walk_at "rd"
            refine r_catS (small (by show r.length + g.length ≤ 1000000; omega)) ?_
            walk_at "rd"
            refine ⟨b + m2, r ++ g, by rw [Int.natCast_add]; rfl, ?_⟩
            walk_at "rd"
            refine ⟨l, l.length - s2.length, rfl, by omega, ?_⟩
            walk_at "rd"
            refine ⟨l.length - (l.length - s2.length), by omega, l.length - s2.length, b + m2, f2, kept (b + m2) (r ++ g), o6, some (.int (m2 : Int)), some (.str (S g)), ?_, ex1.trans ex2, d2, by omega, by omega, by rw [d1]; exact Fb, by rw [d1]; exact hT⟩
            rw [Int.natCast_add]
            rfl
        · walk_at "rd"
          refine r_iteN (fun _ => ?_) (fun z => absurd z (by simp))
          rw [take_one]
          walk_at "rd"
          rw [dgl]
          refine r_iteB (fun hd => ?_) (fun hd => ?_)
          · have hg : goes (l.drop j) = true := by
              rw [hs]
              show (isSg c || isDig c) = true
              rw [hd, Bool.or_true]
            walk_at "rd"
            obtain ⟨f2, rfl⟩ : ∃ x, f' = x + 1 := ⟨f' - 1, by omega⟩
            refine ⟨fun σ2 H2 => ∃ m', m' < m ∧ WW m' σ2 H2, fun σ2 H2 z => z, ?_⟩
            walk_at "rd"
            refine ⟨l, j, rfl, hn, hl, hj, hg, ?_⟩
            rw [hit]
            rw [items_go hg] at hT
            cases hx : item (l.drop j) with
            | error e =>
              rw [hx] at hT
              exact (q.ex ex1).bad (e := e) (by unfold rdPart; rw [hT]) rfl
            | ok g0 =>
              obtain ⟨s2, m2, g⟩ := g0
              rw [hx] at hT
              have G := oki _ _ hg hx
              obtain ⟨d1, d2, d3⟩ := suf_pos G hj
              obtain ⟨Fb, _⟩ := far_step Fa G
              have g24 : g.length ≤ 24 := row24 (fun z => G.row z) (fun z => G.non z)
              intro p H2 ex2 hp
              walk_at "rd"
              refine r_gtup3 rfl (Evl.st_of hp) ?_
              walk_at "rd"
              refine r_catS (small (by show r.length + g.length ≤ 1000000; omega)) ?_
              walk_at "rd"
              refine ⟨b + m2, r ++ g, by rw [Int.natCast_add]; rfl, ?_⟩
              walk_at "rd"
              refine ⟨l, l.length - s2.length, rfl, by omega, ?_⟩
              walk_at "rd"
              refine ⟨l.length - (l.length - s2.length), by omega, l.length - s2.length, b + m2, f2, kept (b + m2) (r ++ g), o6, some (.int (m2 : Int)), some (.str (S g)), ?_, ex1.trans ex2, d2, by omega, by omega, by rw [d1]; exact Fb, by rw [d1]; exact hT⟩
              rw [Int.natCast_add]
              rfl
          · walk_at "rd"
            rw [hs] at stop
            exact stop (by
              show (isSg c || isDig c) = false
              rw [show isSg c = false from hc, hd]
              rfl)
    · intro σ' H1 hM
      obtain ⟨j, b, r, o6, o7, o8, rfl, ex1, hj, Fa, hT⟩ := hM
      have jl : (l.drop j).length = l.length - j := List.length_drop
      have r24 : r.length ≤ 24 := row24 Fa.row Fa.non
      replace q := q.ex ex1
      walk_at "rd"
      refine r_ite (fun b0 => ?_) (fun b0 => ?_)
      · have b0' : b = 0 := by omega
        walk_at "rd"
        refine r_mk (q.bad (e := (l.drop j).length) ?_ (by rw [jl]; omega))
        unfold rdPart
        rw [hT]
        show (if b = 0 then _ else _) = _
        rw [if_pos b0']
      · have b0' : b ≠ 0 := fun z => b0 (by rw [z]; rfl)
        have hP : rdPart item (l.drop i) = match l.drop j with
          | [] => .ok (l.drop j, b, r)
          | c :: s3 => if c = 64 then rdWhole s3 b r else .ok (l.drop j, b, r) := by
          unfold rdPart
          rw [hT]
          show (if b = 0 then _ else _) = _
          rw [if_neg b0']
          all_goals (cases l.drop j <;> rfl)
        walk_at "rd"
        refine r_iteN (fun h64 => ?_) (fun h64 => ?_)
        · have ho : rdPart item (l.drop i) = .ok (l.drop j, b, r) := by
            rw [hP]
            cases hs : l.drop j with
            | nil => rfl
            | cons c s3 =>
              show (if c = 64 then _ else _) = _
              rw [if_neg (fun z => h64 (by rw [hs, z]; rfl))]
          walk_at "rd"
          refine ⟨small (by show 3 ≤ 1000000; decide), fun p hp => ?_⟩
          refine q.good ho (Evl.Ex.new hp) upd_same ?_ rfl rfl
          show (j : Int) = ((l.length - (l.drop j).length : Nat) : Int)
          rw [jl]
          omega
        · cases hs : l.drop j with
          | nil => rw [hs] at h64; cases h64
          | cons c s3 =>
            have c64 : c = 64 := by rw [hs] at h64; injection h64
            subst c64
            have e3 : l.drop (j + 1) = s3 := by
              have e : (l.drop j).drop 1 = (64 :: s3).drop 1 := by rw [hs]
              rw [List.drop_drop] at e
              exact e
            have l3 : s3.length + 1 = l.length - j := by rw [← jl, hs, List.length_cons]
            rw [hs] at hP
            have ho : rdPart item (l.drop i) = match whl s3 b with
              | none => .error s3.length
              | some w => .ok (rsOf s3, w, r ++ List.replicate (w - b) 46) := by
              rw [hP]
              refine (show _ = rdWhole s3 b r from rfl).trans ?_
              rw [rdWhole_eq]
              all_goals (cases whl s3 b <;> rfl)
            walk_at "rd"
            refine ⟨l, j + 1, b, by rw [Int.natCast_add]; rfl, by omega, fun hw => ?_, fun w p H2 hw ex2 hp => ?_⟩
            · rw [e3] at hw
              rw [hw] at ho
              exact q.bad ho (by omega)
            · rw [e3] at hw hp
              rw [hw] at ho
              obtain ⟨w1, w2⟩ := whl_le hw
              have lr := len_rs s3
              walk_at "rd"
              refine r_gtup2 (Evl.st_of hp) ?_
              walk_at "rd"
              refine r_repS (by omega) (by omega) (small (by show 1 * _ ≤ 1000000; omega)) ?_
              rw [show ((w : Int) - (b : Int)).toNat = w - b by omega, flat_one]
              refine r_catS (small (by rw [List.length_replicate]; omega)) ?_
              walk_at "rd"
              refine ⟨small (by show 3 ≤ 1000000; decide), fun p2 hp2 => ?_⟩
              refine q.good ho (ex2.trans (Evl.Ex.new hp2)) upd_same ?_ rfl rfl
              show ((j + 1 + (dsOf s3).length : Nat) : Int) = ((l.length - (rsOf s3).length : Nat) : Int)
              omega
end
end Fk

set_option Elab.async false
set_option linter.all false
set_option maxRecDepth 100000
set_option maxHeartbeats 4000000
namespace Fk
open PySem PySem.Spec PyProof.Rows L2 Fg Rt
local macro_rules | `(tactic| walk_at "rd1") => `(tactic| first
  | with_reducible refine r_seq ?_
  | with_reducible refine r_asg ?_
  | with_reducible refine r_gname ?_
  | with_reducible refine r_gsub ?_
  | with_reducible refine r_ret ?_
  | with_reducible refine r_retN ?_
  | with_reducible refine r_next ?_
  | with_reducible refine r_drop ?_
  | with_reducible refine r_ifS ?_
  | with_reducible refine r_if ?_
  | with_reducible refine r_par ?_
  | with_reducible refine r_pair ?_
  | with_reducible refine r_test ?_
  | with_reducible refine r_tB ?_
  | with_reducible refine r_not ?_
  | with_reducible refine r_and ?_
  | with_reducible refine r_or ?_
  | with_reducible refine r_andV ?_
  | with_reducible refine r_orV ?_
  | with_reducible refine r_notV ?_
  | with_reducible refine r_nil ?_
  | with_reducible refine r_cons ?_
  | with_reducible refine r_call ?_
  | with_reducible refine r_callS ?_
  | with_reducible refine r_cb ?_
  | with_reducible refine r_then ?_
  | with_reducible refine r_tup ?_
  | with_reducible refine r_lst ?_
  | with_reducible refine r_sl ?_
  | with_reducible refine r_nopart ?_
  | with_reducible refine r_part ?_
  | with_reducible refine r_lcR1 ?_
  | with_reducible refine r_lcR2 ?_
  | with_reducible refine r_lcL ?_
  | with_reducible refine r_lcT ?_
  | with_reducible refine r_forR1 ?_
  | with_reducible refine r_forR2 ?_
  | with_reducible refine r_forL ?_
  | with_reducible refine r_forT ?_
  | with_reducible refine r_forE ?_
  | with_reducible refine r_strE ?_
  | ((with_reducible refine r_rng1 ?hc ?_); (case hc => omega))
  | ((with_reducible refine r_rng2 ?hc ?_); (case hc => omega))
  | ((with_reducible refine' r_refL ?hc ?_); (case hc => first | assumption | exact Evl.sq_of (by assumption)))
  | ((with_reducible refine' r_refT ?hc ?_); (case hc => first | assumption | exact Evl.st_of (by assumption)))
  | with_reducible refine r_op ?_
  | with_reducible refine r_un ?_
  | with_reducible refine r_chain ?_
  | ((with_reducible refine' r_var ?hv ?_); (case hv => exact rfl))
  | with_reducible refine r_cS ?_
  | with_reducible refine r_cs ?_
  | with_reducible refine r_c ?_
  | with_reducible refine r_yes ?_
  | with_reducible refine r_bm ?_
  | with_reducible refine r_bl ?_
  | with_reducible refine r_in ?_
  | with_reducible refine r_ty ?_
  | with_reducible refine r_I0 ?_
  | ((with_reducible refine r_I ?hc ?_); (case hc => first | assumption | (show (0 : Int) < _; decide) | exact Or.inr ⟨by decide, by decide⟩ | exact Or.inr ⟨by omega, by omega⟩ | exact Or.inl ⟨by decide, by decide⟩ | exact (show CDivW _ _ from ⟨by decide, by decide +kernel⟩) | exact (show CPowW _ _ from ⟨by decide, by decide +kernel⟩) | (show (0 : Int) < _; omega)))
  | with_reducible refine r_U ?_
  | with_reducible refine r_eqI ?_
  | with_reducible refine r_neI ?_
  | with_reducible refine r_eqS ?_
  | with_reducible refine r_neS ?_
  | with_reducible refine r_eqB ?_
  | with_reducible refine r_neB ?_
  | with_reducible refine r_niS ?_
  | with_reducible refine r_inSS ?_
  | ((with_reducible refine r_slSS ?hc ?_); (case hc => first | exact small (by omega) | exact small (by simp; omega)))
  | ((with_reducible refine r_lenS ?hc ?_); (case hc => first | exact small (by omega) | exact small (by simp; omega)))
  | ((with_reducible refine' r_lenL ?hc ?_); (case hc => first | assumption | exact Evl.sq_of (by assumption)))
  | ((with_reducible refine' r_lenT ?hc ?_); (case hc => first | assumption | exact Evl.st_of (by assumption)))
  | ((with_reducible refine' r_ixL ?h1 ?h2 ?h3 ?_); (case h1 => first | assumption | exact Evl.sq_of (by assumption) | exact Evl.sq_of upd_same); (case h2 => first | decide | omega); (case h3 => first | exact rfl | assumption))
  | ((with_reducible refine' r_ixT ?h1 ?h2 ?h3 ?_); (case h1 => first | assumption | exact Evl.st_of (by assumption)); (case h2 => first | decide | omega); (case h3 => first | exact rfl | assumption))
  | with_reducible refine r_T ?_
  | with_reducible refine r_notNn ?_
  | with_reducible refine r_notN_int ?_
  | with_reducible refine r_notN_str ?_
  | with_reducible refine r_notN_ref ?_
  | with_reducible refine r_isNn ?_
  | with_reducible refine r_isN_int ?_
  | with_reducible refine r_isN_str ?_
  | with_reducible refine r_isN_ref ?_
  | ((with_reducible refine' r_isi ?ht ?hk ?_); (case ht => first | exact .base (.int _) | exact .base (.bl _) | exact .base (.str _) | exact .base .non | exact .base (.lst (by assumption)) | exact .base (.tup (by assumption))); (case hk => first | exact kb_int_int | exact kb_int_bool | exact kb_int_str | exact kb_int_list | exact kb_int_tuple | exact kb_bool_int | exact kb_bool_bool | exact kb_bool_str | exact kb_bool_list | exact kb_bool_tuple | exact kb_str_int | exact kb_str_bool | exact kb_str_str | exact kb_str_list | exact kb_str_tuple | exact kb_NoneType_int | exact kb_NoneType_bool | exact kb_NoneType_str | exact kb_NoneType_list | exact kb_NoneType_tuple | exact kb_list_int | exact kb_list_bool | exact kb_list_str | exact kb_list_list | exact kb_list_tuple | exact kb_tuple_int | exact kb_tuple_bool | exact kb_tuple_str | exact kb_tuple_list | exact kb_tuple_tuple))
  | with_reducible refine r_F ?_
  | with_reducible refine r_nT ?_
  | with_reducible refine r_nF ?_
  | with_reducible refine r_mko ?_
  | with_reducible refine r_xf ?_
  | ((with_reducible refine' r_sum ?hc ?_); (case hc => first | assumption | exact Evl.sq_of (by assumption)))
  | ((with_reducible refine' r_setL ?h1 ?h2 ?h3 ?_); (case h1 => first | assumption | exact upd_same); (case h2 => first | decide | omega); (case h3 => first | (show _ < _; decide) | (simp; done)))
  | with_reducible refine r_int ?_
  | with_reducible refine r_abs ?_)
local macro_rules | `(tactic| walk_at "rd") => `(tactic| repeat (walk_at "rd1"))

section
variable {P : Program} {w : World} {K : PySem.W.Frag} {mg : Str → Option Value} {base : Heap}
theorem ok_rdPart (n : Nat) : Ok (rdPart (rdItem (innerOf n))) (fun _ => True) := ok_part (ok_item (inner_ok n))
theorem fine_row {s : List Nat} {g : Got} (F : Fine s g) (h : s.length ≤ 2000) : RowOk g.2.1 g.2.2 := by
  obtain ⟨k, k1, k2, k3, k4⟩ := F.suf
  exact ⟨F.pos, big_lt (by omega) k4, F.row, F.non⟩
theorem join_stop {part : List Nat → Res} {s : List Nat} (h : s.take 1 ≠ [38]) : ∀ (f b : Nat) (r : List Nat), rdJoin part f s b r = .ok (s, b, r)
  | 0, b, r => rfl
  | f + 1, b, r => by
    unfold rdJoin
    cases s with
    | nil => rfl
    | cons c s2 =>
      show (if c = 38 then _ else _) = _
      rw [if_neg (fun z => h (by rw [z]; rfl))]
theorem join_go {part : List Nat → Res} {s2 : List Nat} {f b : Nat} {r : List Nat} : rdJoin part (f + 1) (38 :: s2) b r = match part s2 with
  | .error e => .error e
  | .ok (s3, b2, r2) => rdJoin part f s3 (Nat.lcm b b2) (tog b r b2 r2) := by
  have h : ∀ c : Nat, c = 38 → rdJoin part (f + 1) (c :: s2) b r = match part s2 with
      | .error e => .error e
      | .ok (s3, b2, r2) => rdJoin part f s3 (Nat.lcm b b2) (tog b r b2 r2) := by
    intro c hc
    show (if c = 38 then _ else _) = _
    rw [if_pos hc]
    all_goals (cases part s2 <;> rfl)
  exact h 38 rfl
theorem parts_eq {part : List Nat → Res} {top : Bool} {s : List Nat} {g1 g : Got} (h1 : part s = .ok g1) (h2 : rdJoin part g1.1.length g1.1 g1.2.1 g1.2.2 = .ok g) : rdParts part top s = if g.1.take 1 = endOf top then .ok g else .error g.1.length := by
  unfold rdParts
  rw [h1]
  obtain ⟨s1, b1, r1⟩ := g1
  show (match rdJoin part s1.length s1 b1 r1 with
    | .error e => Except.error e
    | .ok (s3, b3, r3) => if s3.take 1 = endOf top then .ok (s3, b3, r3) else .error s3.length) = _
  rw [show rdJoin part s1.length s1 b1 r1 = .ok g from h2]
theorem parts_bad1 {part : List Nat → Res} {top : Bool} {s : List Nat} {e : Nat} (h1 : part s = .error e) : rdParts part top s = .error e := by
  unfold rdParts
  rw [h1]
theorem parts_bad2 {part : List Nat → Res} {top : Bool} {s : List Nat} {g1 : Got} {e : Nat} (h1 : part s = .ok g1) (h2 : rdJoin part g1.1.length g1.1 g1.2.1 g1.2.2 = .error e) : rdParts part top s = .error e := by
  unfold rdParts
  rw [h1]
  obtain ⟨s1, b1, r1⟩ := g1
  show (match rdJoin part s1.length s1 b1 r1 with
    | .error e => Except.error e
    | .ok (s3, b3, r3) => if s3.take 1 = endOf top then .ok (s3, b3, r3) else .error s3.length) = _
  rw [show rdJoin part s1.length s1 b1 r1 = .error e from h2]
abbrev s_read_parts : Stmt := topS 21
abbrev N_read_parts : List Str := ["text", "at", "deep", "last", "beats", "row", "other_beats", "other"]
theorem sc_read_parts : FnScope ["text", "at", "deep", "last", "beats", "row", "other_beats", "other"] ["text", "at", "deep"] (defScope s_read_parts) := ⟨rfl, rfl, rfl, by decide +kernel, rfl, by decide +kernel, by decide +kernel⟩
theorem can_read_parts (T : Bi mg) (F : Defd K mg "read_parts" s_read_parts ["text", "at", "deep"]) {n k : Nat} (hk : 3 ≤ k) (hn : n ≤ 6) {A_BadText : Addr} (E_BadText : Err P w K mg base "BadText" A_BadText "at") (C_char_at : Can P w K mg base L2.CX0 1 "char_at" ["text", "at"] spChar) (C_together : Can P w K mg base L2.CX0 1 "together" ["beats", "row", "other_beats", "other"] spTogether) (C_read_part : Can P w K mg base (L2.CX P w) (k + 2) "read_part" ["text", "at", "deep"] (spPart A_BadText n)) : Can P w K mg base (L2.CX P w) (k + 3) "read_parts" ["text", "at", "deep"] (spParts A_BadText n) := by
  refine canX F sc_read_parts (fun vs H Q E h => ?_) (fun f cdv A outer s H vs Q E hr h => ⟨_, (pss_cons (ps_asg (pe_canX C_read_part hr (by omega) rfl (passes_call (takes_of rfl rfl rfl rfl) (fun _ _ _ _ h => h)) (pa_cons (pv 0) (pa_cons (pv 1) (pa_cons (pv 2) pa_nil)))) (pg_tup rfl (pgs_cons (pg_name (i := 1) sc_read_parts.nd rfl (by first | exact Or.inl rfl | exact Or.inr rfl)) (pgs_cons (pg_name (i := 4) sc_read_parts.nd rfl (by first | exact Or.inl rfl | exact Or.inr rfl)) (pgs_cons (pg_name (i := 5) sc_read_parts.nd rfl (by first | exact Or.inl rfl | exact Or.inr rfl)) pgs_nil)))))
  (Evl.pss_cut (ps_while PassesOwn.leaving (pt_cmpR op_eq (pe_can C_char_at hr (by omega) rfl (pa_cons (pv 0) (pa_cons (pv 1) pa_nil))) (pe_strL [38] (by decide +kernel)) (nomark _)) (pss_cons (ps_asg (pe_canX C_read_part hr (by omega) rfl (passes_call (takes_of rfl rfl rfl rfl) (fun _ _ _ _ h => h)) (pa_cons (pv 0) (pa_cons (pe_op op_add (pv 1) pe_int) (pa_cons (pv 2) pa_nil)))) (pg_tup rfl (pgs_cons (pg_name (i := 1) sc_read_parts.nd rfl (by first | exact Or.inl rfl | exact Or.inr rfl)) (pgs_cons (pg_name (i := 6) sc_read_parts.nd rfl (by first | exact Or.inl rfl | exact Or.inr rfl)) (pgs_cons (pg_name (i := 7) sc_read_parts.nd rfl (by first | exact Or.inl rfl | exact Or.inr rfl)) pgs_nil)))))
  (pss_one (ps_asg (pe_can C_together hr (by omega) rfl (pa_cons (pv 4) (pa_cons (pv 5) (pa_cons (pv 6) (pa_cons (pv 7) pa_nil))))) (pg_tup rfl (pgs_cons (pg_name (i := 4) sc_read_parts.nd rfl (by first | exact Or.inl rfl | exact Or.inr rfl)) (pgs_cons (pg_name (i := 5) sc_read_parts.nd rfl (by first | exact Or.inl rfl | exact Or.inr rfl)) pgs_nil)))))))
  (pss_cons (ps_set (i := 3) sc_read_parts.nd rfl (by first | exact Or.inl rfl | exact Or.inr rfl) (pe_ifExp (pt_cmpR op_eq (pv 2) pe_int (nomark _)) (pe_strL [] (by decide +kernel)) (pe_strL [41] (by decide +kernel))))
  (pss_cons (ps_if (pt_cmpR op_ne (pe_can C_char_at hr (by omega) rfl (pa_cons (pv 0) (pa_cons (pv 1) pa_nil))) (pv 3) (nomark _)) (pss_one (ps_raise rfl (takes_of rfl rfl rfl rfl) (pmk_err E_BadText hr (by omega) rfl (pa_cons (pv 1) pa_nil)))) pss_nil)
  (pss_one (ps_ret (pe_tup (pa_cons (pv 1) (pa_cons (pv 4) (pa_cons (pv 5) pa_nil)))))))))), ?_⟩)
  · obtain ⟨_, _, rfl, _⟩ := h
    rfl
  · obtain ⟨l, i, rfl, hl, hi, q⟩ := h
    rw [rdAt_eq] at q
    have okp := ok_rdPart n
    walk_at "rd"
    refine ⟨l, i, rfl, hn, hl, hi, ?_⟩
    generalize hpart : rdPart (rdItem (innerOf n)) = part at q okp ⊢
    generalize ht : decide (n = 6) = top at q
    cases hx : part (l.drop i) with
    | error e => exact q.bad (parts_bad1 hx) rfl
    | ok g0 =>
      obtain ⟨s1, b1, r1⟩ := g0
      have F1 := okp _ _ trivial hx
      obtain ⟨d1, d2, d3⟩ := suf_pos F1 hi
      have jl0 : (l.drop i).length ≤ 2000 := by rw [List.length_drop]; omega
      intro p0 H0 ex0 hp0
      replace q := q.ex ex0
      walk_at "rd"
      refine r_gtup3 rfl (Evl.st_of hp0) ?_
      walk_at "rd"
      refine r_cut (Mid := fun σ' H' => ∃ (j b : Nat) (r : List Nat) (o3 o6 o7 : Option V), σ' = [some (.str (S l)), some (.int (j : Int)), some (.int (6 - (n : Int))), o3, some (.int (b : Int)), some (.str (S r)), o6, o7] ∧ Ex H0 H' ∧ j ≤ l.length ∧ Fine (l.drop i) (l.drop j, b, r) ∧ rdJoin part s1.length s1 b1 r1 = .ok (l.drop j, b, r)) ?_ ?_
      · let WW : Nat → L2.St → Hp → Prop := fun m σ' H' => ∃ (j b f : Nat) (r : List Nat) (o3 o6 o7 : Option V), σ' = [some (.str (S l)), some (.int (j : Int)), some (.int (6 - (n : Int))), o3, some (.int (b : Int)), some (.str (S r)), o6, o7] ∧ Ex H0 H' ∧ j ≤ l.length ∧ m + j = l.length ∧ l.length - j ≤ f ∧ Fine (l.drop i) (l.drop j, b, r) ∧ rdJoin part s1.length s1 b1 r1 = rdJoin part f (l.drop j) b r
        refine ⟨WW, ⟨l.length - (l.length - s1.length), l.length - s1.length, b1, s1.length, r1, none, none, none, rfl, Evl.Ex.refl _, d2, by omega, by omega, by rw [d1]; exact F1, by rw [d1]⟩, fun m σ' H1 hW => ?_⟩
        obtain ⟨j, b, f', r, o3, o6, o7, rfl, ex1, hj, hm, hf, Fa, hT⟩ := hW
        walk_at "rd"
        refine ⟨l, j, rfl, by omega, ?_⟩
        walk_at "rd"
        have jl : (l.drop j).length = l.length - j := List.length_drop
        refine r_ite (fun h38 => ?_) (fun h38 => ?_)
        · cases hs : l.drop j with
          | nil => rw [hs] at h38; cases h38
          | cons c s2 =>
            have c38 : c = 38 := by rw [hs] at h38; injection h38
            subst c38
            have e2 : l.drop (j + 1) = s2 := by
              have e : (l.drop j).drop 1 = (38 :: s2).drop 1 := by rw [hs]
              rw [List.drop_drop] at e
              exact e
            rw [hs, List.length_cons] at jl
            rw [hs] at hT Fa
            obtain ⟨f2, rfl⟩ : ∃ x, f' = x + 1 := ⟨f' - 1, by omega⟩
            rw [join_go] at hT
            refine ⟨fun σ2 H2 => ∃ m', m' < m ∧ WW m' σ2 H2, fun σ2 H2 z => z, ?_⟩
            walk_at "rd"
            refine ⟨l, j + 1, by rw [Int.natCast_add]; rfl, hn, hl, by omega, ?_⟩
            rw [hpart, e2]
            cases hy : part s2 with
            | error e =>
              rw [hy] at hT
              exact (q.ex ex1).bad (parts_bad2 (g1 := (s1, b1, r1)) hx hT) rfl
            | ok g2 =>
              obtain ⟨s3, b2, r2⟩ := g2
              rw [hy] at hT
              have G := okp _ _ trivial hy
              have Fj := fine_join Fa G
              have G' : Fine (l.drop (j + 1)) (s3, b2, r2) := by rw [e2]; exact G
              obtain ⟨e4, e5, e6⟩ := suf_pos G' (by omega)
              have ra := fine_row Fa jl0
              have rb := fine_row G (by omega)
              intro p1 H2 ex2 hp1
              walk_at "rd"
              refine r_gtup3 rfl (Evl.st_of hp1) ?_
              walk_at "rd"
              refine ⟨b, r, b2, r2, rfl, ra, rb, fun p2 H3 ex3 hp2 => ?_⟩
              walk_at "rd"
              refine r_gtup2 (Evl.st_of hp2) ?_
              walk_at "rd"
              exact ⟨l.length - (l.length - s3.length), by omega, l.length - s3.length, Nat.lcm b b2, f2, tog b r b2 r2, o3, some (.int (b2 : Int)), some (.str (S r2)), rfl, (ex1.trans ex2).trans ex3, e5, by omega, by omega, by rw [e4]; exact Fj, by rw [e4]; exact hT⟩
        · exact ⟨j, b, r, o3, o6, o7, rfl, ex1, hj, Fa, by rw [hT, join_stop h38]⟩
      · intro σ' H1 hM
        obtain ⟨j, b, r, o3, o6, o7, rfl, ex1, hj, Fa, hT⟩ := hM
        have ho := parts_eq (top := top) (g1 := (s1, b1, r1)) hx hT
        replace q := q.ex ex1
        have jl : (l.drop j).length = l.length - j := List.length_drop
        walk_at "rd"
        refine r_ite (fun h6 => ?_) (fun h6 => ?_)
        · have et : top = true := by rw [← ht]; exact decide_eq_true (by omega)
          rw [et] at ho q
          walk_at "rd"
          refine ⟨l, j, rfl, by omega, ?_⟩
          walk_at "rd"
          refine r_iteN (fun hE => ?_) (fun hE => ?_)
          · walk_at "rd"
            refine r_mk (q.bad (ho.trans (if_neg ?_)) ?_)
            · exact hE
            · show (j : Int) = ((l.length - (l.drop j).length : Nat) : Int)
              rw [jl]
              omega
          · walk_at "rd"
            refine ⟨small (by show 3 ≤ 1000000; decide), fun p hp => ?_⟩
            refine q.good (ho.trans (if_pos hE)) (Evl.Ex.new hp) upd_same ?_ rfl rfl
            show (j : Int) = ((l.length - (l.drop j).length : Nat) : Int)
            rw [jl]
            omega
        · have et : top = false := by rw [← ht]; exact decide_eq_false (by omega)
          rw [et] at ho q
          walk_at "rd"
          refine ⟨l, j, rfl, by omega, ?_⟩
          walk_at "rd"
          refine r_iteN (fun hE => ?_) (fun hE => ?_)
          · walk_at "rd"
            refine r_mk (q.bad (ho.trans (if_neg ?_)) ?_)
            · exact hE
            · show (j : Int) = ((l.length - (l.drop j).length : Nat) : Int)
              rw [jl]
              omega
          · walk_at "rd"
            refine ⟨small (by show 3 ≤ 1000000; decide), fun p hp => ?_⟩
            refine q.good (ho.trans (if_pos hE)) (Evl.Ex.new hp) upd_same ?_ rfl rfl
            show (j : Int) = ((l.length - (l.drop j).length : Nat) : Int)
            rw [jl]
            omega

theorem can_below {k n : Nat} {A_BadText : Addr} (F : Defd K mg "read_parts" s_read_parts ["text", "at", "deep"]) (hn : n = 0) : Can P w K mg base (L2.CX P w) (k + 1) "read_parts" ["text", "at", "deep"] (spBelow A_BadText n) := by
  subst hn
  exact canX F sc_read_parts (fun vs H Q E h => h.elim) (fun f cdv A outer s H vs Q E hr h => h.elim)
theorem can_reader (T : Bi mg) (F1 : Defd K mg "read_item" s_read_item ["text", "at", "deep"]) (F2 : Defd K mg "read_part" s_read_part ["text", "at", "deep"]) (F3 : Defd K mg "read_parts" s_read_parts ["text", "at", "deep"]) {A_BadText : Addr} (E_BadText : Err P w K mg base "BadText" A_BadText "at") (c_LEAST_TIMES : ∃ u, mg "LEAST_TIMES" = some u ∧ RelV (.int 2) u) (c_MOST_TIMES : ∃ u, mg "MOST_TIMES" = some u ∧ RelV (.int 24) u) (c_MOST_DEEP : ∃ u, mg "MOST_DEEP" = some u ∧ RelV (.int 6) u) (c_MOST_BEATS : ∃ u, mg "MOST_BEATS" = some u ∧ RelV (.int 24) u) (c_DIGITS : ∃ u, mg "DIGITS" = some u ∧ RelV (.str (S DGL)) u) (c_DARK : ∃ u, mg "DARK" = some u ∧ RelV (.str (S [46])) u) (C_end_of_run : Can P w K mg base L2.CX0 1 "end_of_run" ["text", "at"] spEnd) (C_size_of_run : Can P w K mg base (L2.CX P w) 3 "size_of_run" ["text", "at", "end"] (spSize A_BadText)) (C_char_at : Can P w K mg base L2.CX0 1 "char_at" ["text", "at"] spChar) (C_is_sign : Can P w K mg base L2.CX0 1 "is_sign" ["thing"] spIsSign) (C_kept : Can P w K mg base L2.CX0 1 "kept" ["beats", "row"] spKept) (C_together : Can P w K mg base L2.CX0 1 "together" ["beats", "row", "other_beats", "other"] spTogether) (C_read_whole : Can P w K mg base (L2.CX P w) 4 "read_whole" ["text", "at", "beats"] (spWhole A_BadText)) :
    ∀ n : Nat, n ≤ 6 → Can P w K mg base (L2.CX P w) (6 + 3 * n) "read_parts" ["text", "at", "deep"] (spParts A_BadText n) := by
  have step : ∀ (n k : Nat), 3 ≤ k → n ≤ 6 → Can P w K mg base (L2.CX P w) k "read_parts" ["text", "at", "deep"] (spBelow A_BadText n) → Can P w K mg base (L2.CX P w) (k + 3) "read_parts" ["text", "at", "deep"] (spParts A_BadText n) := by
    intro n k hk hn C_read_parts
    have C_read_item : Can P w K mg base (L2.CX P w) (k + 1) "read_item" ["text", "at", "deep"] (spItem A_BadText n) := by
      apply can_read_item T F1 <;> assumption
    have C_read_part : Can P w K mg base (L2.CX P w) (k + 2) "read_part" ["text", "at", "deep"] (spPart A_BadText n) := by
      apply can_read_part T F2 <;> assumption
    apply can_read_parts T F3 <;> assumption
  intro n
  induction n with
  | zero => intro h; exact step 0 3 (by decide) h (can_below F3 rfl)
  | succ n ih =>
    intro h
    have e : 6 + 3 * (n + 1) = 6 + 3 * n + 3 := by omega
    rw [e]
    exact step (n + 1) (6 + 3 * n) (by omega) h (ih (by omega))
end
end Fk

set_option Elab.async false
set_option linter.all false
set_option maxRecDepth 100000
set_option maxHeartbeats 4000000
namespace Fk
open PySem PySem.Spec PyProof.Rows L2 Fg Rt
local macro_rules | `(tactic| walk_at "rd1") => `(tactic| first
  | with_reducible refine r_seq ?_
  | with_reducible refine r_asg ?_
  | with_reducible refine r_gname ?_
  | with_reducible refine r_gsub ?_
  | with_reducible refine r_ret ?_
  | with_reducible refine r_retN ?_
  | with_reducible refine r_next ?_
  | with_reducible refine r_drop ?_
  | with_reducible refine r_ifS ?_
  | with_reducible refine r_if ?_
  | with_reducible refine r_par ?_
  | with_reducible refine r_pair ?_
  | with_reducible refine r_test ?_
  | with_reducible refine r_tB ?_
  | with_reducible refine r_not ?_
  | with_reducible refine r_and ?_
  | with_reducible refine r_or ?_
  | with_reducible refine r_andV ?_
  | with_reducible refine r_orV ?_
  | with_reducible refine r_notV ?_
  | with_reducible refine r_nil ?_
  | with_reducible refine r_cons ?_
  | with_reducible refine r_call ?_
  | with_reducible refine r_callS ?_
  | with_reducible refine r_cb ?_
  | with_reducible refine r_then ?_
  | with_reducible refine r_tup ?_
  | with_reducible refine r_lst ?_
  | with_reducible refine r_sl ?_
  | with_reducible refine r_nopart ?_
  | with_reducible refine r_part ?_
  | with_reducible refine r_lcR1 ?_
  | with_reducible refine r_lcR2 ?_
  | with_reducible refine r_lcL ?_
  | with_reducible refine r_lcT ?_
  | with_reducible refine r_forR1 ?_
  | with_reducible refine r_forR2 ?_
  | with_reducible refine r_forL ?_
  | with_reducible refine r_forT ?_
  | with_reducible refine r_forE ?_
  | with_reducible refine r_strE ?_
  | ((with_reducible refine r_rng1 ?hc ?_); (case hc => omega))
  | ((with_reducible refine r_rng2 ?hc ?_); (case hc => omega))
  | ((with_reducible refine' r_refL ?hc ?_); (case hc => first | assumption | exact Evl.sq_of (by assumption)))
  | ((with_reducible refine' r_refT ?hc ?_); (case hc => first | assumption | exact Evl.st_of (by assumption)))
  | with_reducible refine r_op ?_
  | with_reducible refine r_un ?_
  | with_reducible refine r_chain ?_
  | ((with_reducible refine' r_var ?hv ?_); (case hv => exact rfl))
  | with_reducible refine r_cS ?_
  | with_reducible refine r_cs ?_
  | with_reducible refine r_c ?_
  | with_reducible refine r_yes ?_
  | with_reducible refine r_bm ?_
  | with_reducible refine r_bl ?_
  | with_reducible refine r_in ?_
  | with_reducible refine r_ty ?_
  | with_reducible refine r_I0 ?_
  | ((with_reducible refine r_I ?hc ?_); (case hc => first | assumption | (show (0 : Int) < _; decide) | exact Or.inr ⟨by decide, by decide⟩ | exact Or.inr ⟨by omega, by omega⟩ | exact Or.inl ⟨by decide, by decide⟩ | exact (show CDivW _ _ from ⟨by decide, by decide +kernel⟩) | exact (show CPowW _ _ from ⟨by decide, by decide +kernel⟩) | (show (0 : Int) < _; omega)))
  | with_reducible refine r_U ?_
  | with_reducible refine r_eqI ?_
  | with_reducible refine r_neI ?_
  | with_reducible refine r_eqS ?_
  | with_reducible refine r_neS ?_
  | with_reducible refine r_eqB ?_
  | with_reducible refine r_neB ?_
  | with_reducible refine r_niS ?_
  | with_reducible refine r_inSS ?_
  | ((with_reducible refine r_slSS ?hc ?_); (case hc => first | exact small (by omega) | exact small (by simp; omega)))
  | ((with_reducible refine r_lenS ?hc ?_); (case hc => first | exact small (by omega) | exact small (by simp; omega)))
  | ((with_reducible refine' r_lenL ?hc ?_); (case hc => first | assumption | exact Evl.sq_of (by assumption)))
  | ((with_reducible refine' r_lenT ?hc ?_); (case hc => first | assumption | exact Evl.st_of (by assumption)))
  | ((with_reducible refine' r_ixL ?h1 ?h2 ?h3 ?_); (case h1 => first | assumption | exact Evl.sq_of (by assumption) | exact Evl.sq_of upd_same); (case h2 => first | decide | omega); (case h3 => first | exact rfl | assumption))
  | ((with_reducible refine' r_ixT ?h1 ?h2 ?h3 ?_); (case h1 => first | assumption | exact Evl.st_of (by assumption)); (case h2 => first | decide | omega); (case h3 => first | exact rfl | assumption))
  | with_reducible refine r_T ?_
  | with_reducible refine r_notNn ?_
  | with_reducible refine r_notN_int ?_
  | with_reducible refine r_notN_str ?_
  | with_reducible refine r_notN_ref ?_
  | with_reducible refine r_isNn ?_
  | with_reducible refine r_isN_int ?_
  | with_reducible refine r_isN_str ?_
  | with_reducible refine r_isN_ref ?_
  | ((with_reducible refine' r_isi ?ht ?hk ?_); (case ht => first | exact .base (.int _) | exact .base (.bl _) | exact .base (.str _) | exact .base .non | exact .base (.lst (by assumption)) | exact .base (.tup (by assumption))); (case hk => first | exact kb_int_int | exact kb_int_bool | exact kb_int_str | exact kb_int_list | exact kb_int_tuple | exact kb_bool_int | exact kb_bool_bool | exact kb_bool_str | exact kb_bool_list | exact kb_bool_tuple | exact kb_str_int | exact kb_str_bool | exact kb_str_str | exact kb_str_list | exact kb_str_tuple | exact kb_NoneType_int | exact kb_NoneType_bool | exact kb_NoneType_str | exact kb_NoneType_list | exact kb_NoneType_tuple | exact kb_list_int | exact kb_list_bool | exact kb_list_str | exact kb_list_list | exact kb_list_tuple | exact kb_tuple_int | exact kb_tuple_bool | exact kb_tuple_str | exact kb_tuple_list | exact kb_tuple_tuple))
  | with_reducible refine r_F ?_
  | with_reducible refine r_nT ?_
  | with_reducible refine r_nF ?_
  | with_reducible refine r_mko ?_
  | with_reducible refine r_xf ?_
  | ((with_reducible refine' r_sum ?hc ?_); (case hc => first | assumption | exact Evl.sq_of (by assumption)))
  | ((with_reducible refine' r_setL ?h1 ?h2 ?h3 ?_); (case h1 => first | assumption | exact upd_same); (case h2 => first | decide | omega); (case h3 => first | (show _ < _; decide) | (simp; done)))
  | with_reducible refine r_int ?_
  | with_reducible refine r_abs ?_)
local macro_rules | `(tactic| walk_at "rd") => `(tactic| repeat (walk_at "rd1"))

section
variable {P : Program} {w : World} {K : PySem.W.Frag} {mg : Str → Option Value} {base : Heap}
/-- what read_round tells -/
def OutRound (C CT : Addr) (l : List Nat) (H : Hp) (Q : VK) (E : XK) : Prop := match rdAt 6 true l with
  | .error e => Wish C "at" (.int ((l.length - e : Nat) : Int)) H E
  | .ok g => (g.2.1 ≤ 24 → ∀ H', Ex H H' → Q (.str (S g.2.2)) H') ∧ (24 < g.2.1 → Wish CT "number" (.int (g.2.1 : Int)) H E)
def spReadRound (K : PySem.W.Frag) (C CT : Addr) : Sp := fun vs H Q E => ∃ x, vs = [x] ∧ ((∃ m, TyX K H x (.type m) ∧ kitB m "str" = some false ∧ Wish C "at" (.int (-1)) H E) ∨ ∃ l, x = .str (S l) ∧ l.length ≤ 2000 ∧ OutRound C CT l H Q E)
abbrev s_read_round : Stmt := topS 15
abbrev N_read_round : List Str := ["text", "_", "beats", "row"]
theorem sc_read_round : FnScope ["text", "_", "beats", "row"] ["text"] (defScope s_read_round) := ⟨rfl, rfl, rfl, by decide +kernel, rfl, by decide +kernel, by decide +kernel⟩
theorem can_read_round (T : Bi mg) (F : Defd K mg "read_round" s_read_round ["text"]) (c_MOST_BEATS : ∃ u, mg "MOST_BEATS" = some u ∧ RelV (.int 24) u) {A_BadText : Addr} (E_BadText : Err P w K mg base "BadText" A_BadText "at") {A_TooLong : Addr} (E_TooLong : Err P w K mg base "TooLong" A_TooLong "number") (C_read_parts : Can P w K mg base (L2.CX P w) 24 "read_parts" ["text", "at", "deep"] (spParts A_BadText 6)) : Can P w K mg base (L2.CX P w) 25 "read_round" ["text"] (spReadRound K A_BadText A_TooLong) := by
  refine canX F sc_read_round (fun vs H Q E h => ?_) (fun f cdv A outer s H vs Q E hr h => ⟨_, (pss_cons (ps_if (pt_not (pt_val (pe_callB call_isi (by rfl) T.b_isinstance boot_isinstance (pa_cons (pv 0) (pa_cons (pe_bltn (v := .ty "str") (by rfl) T.b_str boot_str rfl) pa_nil))))) (pss_one (ps_raise rfl (takes_of rfl rfl rfl rfl) (pmk_err E_BadText hr (by decide) rfl (pa_cons (pe_un un_neg pe_int) pa_nil)))) pss_nil)
  (pss_cons (ps_asg (pe_canX C_read_parts hr (by decide) rfl (passes_call (takes_of rfl rfl rfl rfl) (fun _ _ _ _ h => h)) (pa_cons (pv 0) (pa_cons pe_int (pa_cons pe_int pa_nil)))) (pg_tup rfl (pgs_cons (pg_name (i := 1) sc_read_round.nd rfl (by first | exact Or.inl rfl | exact Or.inr rfl)) (pgs_cons (pg_name (i := 2) sc_read_round.nd rfl (by first | exact Or.inl rfl | exact Or.inr rfl)) (pgs_cons (pg_name (i := 3) sc_read_round.nd rfl (by first | exact Or.inl rfl | exact Or.inr rfl)) pgs_nil)))))
  (pss_cons (ps_if (pt_cmpR op_gt (pv 2) (C8.pe_gc rfl c_MOST_BEATS) (nomark _)) (pss_one (ps_raise rfl (takes_of rfl rfl rfl rfl) (pmk_err E_TooLong hr (by decide) rfl (pa_cons (pv 2) pa_nil)))) pss_nil)
  (pss_one (ps_ret (pv 3)))))), ?_⟩)
  · obtain ⟨_, rfl, _⟩ := h
    rfl
  · obtain ⟨x, rfl, h⟩ := h
    rcases h with ⟨m, hm, hk, w1⟩ | ⟨l, rfl, hl, q⟩
    · walk_at "rd"
      refine r_isi hm hk ?_
      walk_at "rd"
      exact r_mk w1
    · walk_at "rd"
      refine ⟨l, 0, rfl, hl, Nat.zero_le _, ?_⟩
      show OutR A_BadText l (rdAt 6 true (l.drop 0)) H _ E
      rw [List.drop_zero]
      unfold OutRound at q
      cases hx : rdAt 6 true l with
      | error e =>
        rw [hx] at q
        exact q
      | ok g =>
        rw [hx] at q
        obtain ⟨q1, q2⟩ := q
        intro p H1 ex1 hp
        walk_at "rd"
        refine r_gtup3 rfl (Evl.st_of hp) ?_
        walk_at "rd"
        refine r_ite (fun h => ?_) (fun h => ?_)
        · walk_at "rd"
          exact r_mk ((q2 (by omega)).ex ex1)
        · walk_at "rd"
          exact q1 (by omega) H1 ex1
end
end Fk

set_option Elab.async false
set_option linter.all false
set_option maxRecDepth 100000
set_option maxHeartbeats 4000000
namespace Fk
open PySem PySem.Spec PyProof.Rows L2 Fg
local macro_rules | `(tactic| walk_at "rd1") => `(tactic| first
  | with_reducible refine r_seq ?_
  | with_reducible refine r_asg ?_
  | with_reducible refine r_gname ?_
  | with_reducible refine r_gsub ?_
  | with_reducible refine r_ret ?_
  | with_reducible refine r_retN ?_
  | with_reducible refine r_next ?_
  | with_reducible refine r_drop ?_
  | with_reducible refine r_ifS ?_
  | with_reducible refine r_if ?_
  | with_reducible refine r_par ?_
  | with_reducible refine r_pair ?_
  | with_reducible refine r_test ?_
  | with_reducible refine r_tB ?_
  | with_reducible refine r_not ?_
  | with_reducible refine r_and ?_
  | with_reducible refine r_or ?_
  | with_reducible refine r_andV ?_
  | with_reducible refine r_orV ?_
  | with_reducible refine r_notV ?_
  | with_reducible refine r_nil ?_
  | with_reducible refine r_cons ?_
  | with_reducible refine r_call ?_
  | with_reducible refine r_callS ?_
  | with_reducible refine r_cb ?_
  | with_reducible refine r_then ?_
  | with_reducible refine r_tup ?_
  | with_reducible refine r_lst ?_
  | with_reducible refine r_sl ?_
  | with_reducible refine r_nopart ?_
  | with_reducible refine r_part ?_
  | with_reducible refine r_lcR1 ?_
  | with_reducible refine r_lcR2 ?_
  | with_reducible refine r_lcL ?_
  | with_reducible refine r_lcT ?_
  | with_reducible refine r_forR1 ?_
  | with_reducible refine r_forR2 ?_
  | with_reducible refine r_forL ?_
  | with_reducible refine r_forT ?_
  | with_reducible refine r_forE ?_
  | with_reducible refine r_strE ?_
  | ((with_reducible refine r_rng1 ?hc ?_); (case hc => omega))
  | ((with_reducible refine r_rng2 ?hc ?_); (case hc => omega))
  | ((with_reducible refine' r_refL ?hc ?_); (case hc => first | assumption | exact Evl.sq_of (by assumption)))
  | ((with_reducible refine' r_refT ?hc ?_); (case hc => first | assumption | exact Evl.st_of (by assumption)))
  | with_reducible refine r_op ?_
  | with_reducible refine r_un ?_
  | with_reducible refine r_chain ?_
  | ((with_reducible refine' r_var ?hv ?_); (case hv => exact rfl))
  | with_reducible refine r_cS ?_
  | with_reducible refine r_cs ?_
  | with_reducible refine r_c ?_
  | with_reducible refine r_yes ?_
  | with_reducible refine r_bm ?_
  | with_reducible refine r_bl ?_
  | with_reducible refine r_in ?_
  | with_reducible refine r_ty ?_
  | with_reducible refine r_I0 ?_
  | ((with_reducible refine r_I ?hc ?_); (case hc => first | assumption | (show (0 : Int) < _; decide) | exact Or.inr ⟨by decide, by decide⟩ | exact Or.inr ⟨by omega, by omega⟩ | exact Or.inl ⟨by decide, by decide⟩ | exact (show CDivW _ _ from ⟨by decide, by decide +kernel⟩) | exact (show CPowW _ _ from ⟨by decide, by decide +kernel⟩) | (show (0 : Int) < _; omega)))
  | with_reducible refine r_U ?_
  | with_reducible refine r_eqI ?_
  | with_reducible refine r_neI ?_
  | with_reducible refine r_eqS ?_
  | with_reducible refine r_neS ?_
  | with_reducible refine r_eqB ?_
  | with_reducible refine r_neB ?_
  | with_reducible refine r_niS ?_
  | with_reducible refine r_inSS ?_
  | ((with_reducible refine r_slSS ?hc ?_); (case hc => first | exact small (by omega) | exact small (by simp; omega)))
  | ((with_reducible refine r_lenS ?hc ?_); (case hc => first | exact small (by omega) | exact small (by simp; omega)))
  | ((with_reducible refine' r_lenL ?hc ?_); (case hc => first | assumption | exact Evl.sq_of (by assumption)))
  | ((with_reducible refine' r_lenT ?hc ?_); (case hc => first | assumption | exact Evl.st_of (by assumption)))
  | ((with_reducible refine' r_ixL ?h1 ?h2 ?h3 ?_); (case h1 => first | assumption | exact Evl.sq_of (by assumption) | exact Evl.sq_of upd_same); (case h2 => first | decide | omega); (case h3 => first | exact rfl | assumption))
  | ((with_reducible refine' r_ixT ?h1 ?h2 ?h3 ?_); (case h1 => first | assumption | exact Evl.st_of (by assumption)); (case h2 => first | decide | omega); (case h3 => first | exact rfl | assumption))
  | with_reducible refine r_T ?_
  | with_reducible refine r_notNn ?_
  | with_reducible refine r_notN_int ?_
  | with_reducible refine r_notN_str ?_
  | with_reducible refine r_notN_ref ?_
  | with_reducible refine r_isNn ?_
  | with_reducible refine r_isN_int ?_
  | with_reducible refine r_isN_str ?_
  | with_reducible refine r_isN_ref ?_
  | ((with_reducible refine' r_isi ?ht ?hk ?_); (case ht => first | exact .base (.int _) | exact .base (.bl _) | exact .base (.str _) | exact .base .non | exact .base (.lst (by assumption)) | exact .base (.tup (by assumption))); (case hk => first | exact kb_int_int | exact kb_int_bool | exact kb_int_str | exact kb_int_list | exact kb_int_tuple | exact kb_bool_int | exact kb_bool_bool | exact kb_bool_str | exact kb_bool_list | exact kb_bool_tuple | exact kb_str_int | exact kb_str_bool | exact kb_str_str | exact kb_str_list | exact kb_str_tuple | exact kb_NoneType_int | exact kb_NoneType_bool | exact kb_NoneType_str | exact kb_NoneType_list | exact kb_NoneType_tuple | exact kb_list_int | exact kb_list_bool | exact kb_list_str | exact kb_list_list | exact kb_list_tuple | exact kb_tuple_int | exact kb_tuple_bool | exact kb_tuple_str | exact kb_tuple_list | exact kb_tuple_tuple))
  | with_reducible refine r_F ?_
  | with_reducible refine r_nT ?_
  | with_reducible refine r_nF ?_
  | with_reducible refine r_mko ?_
  | with_reducible refine r_xf ?_
  | ((with_reducible refine' r_sum ?hc ?_); (case hc => first | assumption | exact Evl.sq_of (by assumption)))
  | ((with_reducible refine' r_setL ?h1 ?h2 ?h3 ?_); (case h1 => first | assumption | exact upd_same); (case h2 => first | decide | omega); (case h3 => first | (show _ < _; decide) | (simp; done)))
  | with_reducible refine r_int ?_
  | with_reducible refine r_abs ?_)
local macro_rules | `(tactic| walk_at "rd") => `(tactic| repeat (walk_at "rd1"))

section
variable {P : Program} {w : World} {K : PySem.W.Frag} {mg : Str → Option Value} {base : Heap}
abbrev s_l_mix : Stmt := topS 27
abbrev N_l_mix : List Str := ["_law_cell", "_law_turn", "_law_one", "_law_two"]
theorem sc_l_mix : FnScope ["_law_cell", "_law_turn", "_law_one", "_law_two"] ["_law_cell", "_law_turn"] (defScope s_l_mix) := ⟨rfl, rfl, rfl, by decide +kernel, rfl, by decide +kernel, by decide +kernel⟩
def spMix : Sp := fun vs H Q _ => ∃ a b : Int, vs = [.int a, .int b] ∧ ∀ k : Int, Q (.int k) H
theorem can_mix (T : Bi mg) (F : Defd K mg "_law_mix" s_l_mix ["_law_cell", "_law_turn"]) : Can P w K mg base L2.CX0 1 "_law_mix" ["_law_cell", "_law_turn"] spMix := by
  refine can0 F sc_l_mix (fun vs H Q E h => ?_) (fun f cdv A outer s H vs Q E hr h => ⟨_, (pss_cons (ps_set (i := 2) sc_l_mix.nd rfl (by first | exact Or.inl rfl | exact Or.inr rfl) (pe_op op_mod (pe_callTy call_intI (by rfl) T.b_int boot_int (pa_cons (pe_op op_add (pe_op op_add (pe_op op_mul (pv 0) pe_int) (pe_op op_mul (pv 1) pe_int)) pe_int) pa_nil)) pe_int))
  (pss_cons (ps_set (i := 3) sc_l_mix.nd rfl (by first | exact Or.inl rfl | exact Or.inr rfl) (pe_op op_mod (pe_callTy call_intI (by rfl) T.b_int boot_int (pa_cons (pe_op op_add (pe_op op_add (pe_op op_mul (pv 2) (pv 2)) (pe_op op_mul (pv 1) pe_int)) (pv 0)) pa_nil)) pe_int))
  (pss_cons (ps_set (i := 3) sc_l_mix.nd rfl (by first | exact Or.inl rfl | exact Or.inr rfl) (pe_op op_mod (pe_callTy call_intI (by rfl) T.b_int boot_int (pa_cons (pe_op op_add (pe_op op_mul (pv 3) (pv 3)) (pv 2)) pa_nil)) pe_int))
  (pss_one (ps_ret (pe_op op_fdivW (pv 3) pe_int)))))), ?_⟩)
  · obtain ⟨a, b, rfl, _⟩ := h
    rfl
  · obtain ⟨a, b, rfl, q⟩ := h
    walk_at "rd"
    exact q _
abbrev s_l_draw : Stmt := topS 26
abbrev N_l_draw : List Str := ["_law_script", "_law_cells", "_law_cell"]
theorem sc_l_draw : FnScope ["_law_script", "_law_cells", "_law_cell"] ["_law_script"] (defScope s_l_draw) := ⟨rfl, rfl, rfl, by decide +kernel, rfl, by decide +kernel, by decide +kernel⟩abbrev s_l_pick : Stmt := topS 28
abbrev N_l_pick : List Str := ["_law_draw_here", "_law_many", "_law_cell", "_law_digit", "_law_found"]
theorem sc_l_pick : FnScope ["_law_draw_here", "_law_many", "_law_cell", "_law_digit", "_law_found"] ["_law_draw_here", "_law_many"] (defScope s_l_pick) := ⟨rfl, rfl, rfl, by decide +kernel, rfl, by decide +kernel, by decide +kernel⟩
abbrev Big : Int := (10 ^ 60) ^ 64
/-- a draw at d: its cells at c -/
structure Dr (ns : List Int) (c d : Addr) (H : Hp) : Prop where
  ne : c ≠ d
  cells : H c = some (.lst (ns.map V.int))
  ex : ∃ i n big cnt base : Int, H d = some (.lst [.ref c, .int i, .int big, .int cnt, .int n, .int base]) ∧ 0 ≤ i
theorem Dr.ex' {ns : List Int} {c d : Addr} {H H' : Hp} (D : Dr ns c d H) (e : Ex H H') : Dr ns c d H' := ⟨D.ne, e _ _ D.cells, by
  obtain ⟨i, n, big, cnt, base, h, r⟩ := D.ex
  exact ⟨i, n, big, cnt, base, e _ _ h, r⟩⟩
theorem Dr.put {ns : List Int} {c d : Addr} {H : Hp} (D : Dr ns c d H) {i n big cnt base : Int} (hi : 0 ≤ i) : Dr ns c d (upd H d (.lst [.ref c, .int i, .int big, .int cnt, .int n, .int base])) :=
  ⟨D.ne, by rw [upd_ne D.ne]; exact D.cells, i, n, big, cnt, base, upd_same, hi⟩
theorem Dr.put2 {ns : List Int} {c d : Addr} {H : Hp} {o : HO} (D : Dr ns c d H) {i n big cnt base : Int} (hi : 0 ≤ i) : Dr ns c d (upd (upd H d o) d (.lst [.ref c, .int i, .int big, .int cnt, .int n, .int base])) := by
  rw [upd_upd]
  exact D.put hi
theorem Dr.put3 {ns : List Int} {c d : Addr} {H : Hp} {o o' : HO} (D : Dr ns c d H) {i n big cnt base : Int} (hi : 0 ≤ i) : Dr ns c d (upd (upd (upd H d o) d o') d (.lst [.ref c, .int i, .int big, .int cnt, .int n, .int base])) := by
  rw [upd_upd]
  exact D.put2 hi
theorem kp2 {d : Addr} {H : Hp} {o o' : HO} : Kp d H (upd (upd H d o) d o') := by rw [upd_upd]; exact Kp.upd
theorem kp3 {d : Addr} {H : Hp} {o o' o2 : HO} : Kp d H (upd (upd (upd H d o) d o') d o2) := by rw [upd_upd]; exact kp2
theorem cell_at {ns : List Int} {i : Int} (h0 : 0 ≤ i) (h : i < (ns.map V.int).length) : ∃ z : Int, (ns.map V.int)[i.toNat]? = some (.int z) := by
  have h1 : i.toNat < ns.length := by rw [List.length_map] at h; omega
  exact ⟨ns[i.toNat], by rw [List.getElem?_map, List.getElem?_eq_getElem h1]; rfl⟩
def spDraw (K : PySem.W.Frag) : Sp := fun vs H Q _ => ∃ (a : Addr) (ns : List Int), vs = [.ref a] ∧ SqL K H a (ns.map V.int) ∧ ns.length ≤ 63 ∧ ∀ c d H', H c = none → H d = none → Ex H H' → Dr ns c d H' → Q (.ref d) H'
def spPick : Sp := fun vs H Q _ => ∃ (c d : Addr) (m : Int) (ns : List Int), vs = [.ref d, .int m] ∧ Dr ns c d H ∧ m < 2 ^ 200 ∧ ∀ (k : Int) H', 0 ≤ k → (k < m ∨ k = 0) → Kp d H H' → Dr ns c d H' → Q (.int k) H'
theorem can_draw (T : Bi mg) (F : Defd K mg "_law_draw" s_l_draw ["_law_script"]) : Can P w K mg base L2.CX0 1 "_law_draw" ["_law_script"] (spDraw K) := by
  refine can0 F sc_l_draw (fun vs H Q E h => ?_) (fun f cdv A outer s H vs Q E hr h => ⟨_, (pss_cons (ps_setLc (i := 1) (own := [("_law_cell", 2)]) (g := gName 2) (tt := tYes) rfl sc_l_draw.nd rfl rfl (sw_true rfl rfl rfl (by decide +kernel)) (pi_list (pv 0)) (blkOk_by (N := N_l_draw) (sc := defScope s_l_draw) (by decide +kernel)) (fun _ _ _ _ _ => pg_name (i := 2) sc_l_draw.nd rfl (Or.inl rfl)) (fun _ _ _ _ _ => pts_nil) (fun _ _ _ _ _ => (pv 2)))
  (pss_one (ps_ret (pe_lst (pa_cons (pv 1) (pa_cons pe_int (pa_cons pe_int (pa_cons pe_int (pa_cons pe_int (pa_cons (pe_op op_add (pe_op op_mod (pe_callTy call_intI (by rfl) T.b_int boot_int (pa_cons (pe_callB (cr_sum rfl) (by rfl) T.b_sum boot_sum (pa_cons (pv 1) pa_nil)) pa_nil)) pe_int) (pe_op op_mul pe_int (pe_callB call_lenQ (by rfl) T.b_len boot_len (pa_cons (pv 1) pa_nil)))) pa_nil)))))))))), ?_⟩)
  · obtain ⟨a, ns, rfl, _⟩ := h
    rfl
  · obtain ⟨a, ns, rfl, hS, hl, q⟩ := h
    walk_at "rd"
    refine lcL (xs := ns.map V.int) (fun D i acc H2 => Ex H H2 ∧ acc = (ns.take i).map V.int) (fun _ => rfl) (fun D hD => ⟨Evl.Ex.new hD, rfl⟩) (fun D i H2 acc _ h => Evl.ex_l h.1 hS) (fun D i x H2 acc hD hx h1 h2 h3 => ?_) (fun D H2 acc hD h1 h3 => ?_)
    · obtain ⟨e, rfl⟩ := h3
      have hi : i < 63 := by
        have := lt_of_get hx
        rw [List.length_map] at this
        omega
      walk_at "rd"
      exact lc_end (by omega) h2 h1 ⟨Evl.Ex.mut e hD, (take_map hx).symm⟩
    · obtain ⟨e, rfl⟩ := h3
      rw [List.take_of_length_le (by rw [List.length_map]; omega)] at h1
      walk_at "rd"
      refine ⟨small (by show 6 ≤ 1000000; decide), fun p hp => ?_⟩
      have ne : D ≠ p := ne_of_none h1 hp
      refine q D p _ hD (Evl.fresh_back e hp) (e.trans (Evl.Ex.new hp)) ⟨ne, ?_, _, _, _, _, _, upd_same, Int.le_refl _⟩
      rw [upd_ne ne]
      exact h1
theorem can_pick (T : Bi mg) (F : Defd K mg "_law_pick" s_l_pick ["_law_draw_here", "_law_many"]) (C_l_mix : Can P w K mg base L2.CX0 1 "_law_mix" ["_law_cell", "_law_turn"] spMix) : Can P w K mg base L2.CX0 2 "_law_pick" ["_law_draw_here", "_law_many"] spPick := by
  refine can0 F sc_l_pick (fun vs H Q E h => ?_) (fun f cdv A outer s H vs Q E hr h => ⟨_, (pss_cons (ps_if (pt_cmpR op_lt (pv 1) pe_int (nomark _)) (pss_one (ps_ret pe_int)) pss_nil)
  (Evl.pss_cut (ps_if (PW.pt (pw_and (pt_cmpR op_eq (pe_ix ix_list (pv 0) pe_int (fun _ _ => rfl)) pe_int (nomark _)) (pw_and (pt_cmpR op_lt (pe_ix ix_list (pv 0) pe_int (fun _ _ => rfl)) (pe_callB call_lenQ (by rfl) T.b_len boot_len (pa_cons (pe_ix ix_list (pv 0) pe_int (fun _ _ => rfl)) pa_nil)) (nomark _)) (pw_and1 (pt_cmpR op_eq (pe_ix ix_list (pv 0) pe_int (fun _ _ => rfl)) pe_int (nomark _)))))) (pss_cons (ps_set (i := 2) sc_l_pick.nd rfl (by first | exact Or.inl rfl | exact Or.inr rfl) (pe_ix ix_list (pe_ix ix_list (pv 0) pe_int (fun _ _ => rfl)) (pe_ix ix_list (pv 0) pe_int (fun _ _ => rfl)) (fun _ _ => rfl)))
  (pss_one (ps_if (PW.pt (pw_or (pt_cmpR op_ge (pv 2) (pe_op op_powW pe_int pe_int) (nomark _)) (pw_or1 (pt_cmpR op_le (pv 2) (pe_un un_neg (pe_op op_powW pe_int pe_int)) (nomark _))))) (pss_cons (ps_asg (pe_op op_mod (pe_callTy call_intI (by rfl) T.b_int boot_int (pa_cons (pe_callB call_absI (by rfl) T.b_abs boot_abs (pa_cons (pv 2) pa_nil)) pa_nil)) (pe_op op_powW (pe_op op_powW pe_int pe_int) pe_int)) (pg_sub (pv 0) pe_int set_list))
  (pss_one (ps_asg (pe_op op_add (pe_ix ix_list (pv 0) pe_int (fun _ _ => rfl)) pe_int) (pg_sub (pv 0) pe_int set_list)))) pss_nil))) pss_nil)
  (pss_cons (ps_if (pt_cmpR op_gt (pe_ix ix_list (pv 0) pe_int (fun _ _ => rfl)) pe_int (nomark _)) (pss_cons (ps_set (i := 3) sc_l_pick.nd rfl (by first | exact Or.inl rfl | exact Or.inr rfl) (pe_op op_mod (pe_callTy call_intI (by rfl) T.b_int boot_int (pa_cons (pe_ix ix_list (pv 0) pe_int (fun _ _ => rfl)) pa_nil)) (pv 1)))
  (pss_cons (ps_asg (pe_op op_fdivW (pe_ix ix_list (pv 0) pe_int (fun _ _ => rfl)) (pv 1)) (pg_sub (pv 0) pe_int set_list))
  (pss_one (ps_ret (pv 3))))) pss_nil)
  (pss_cons (ps_if (pt_cmpR op_lt (pe_ix ix_list (pv 0) pe_int (fun _ _ => rfl)) (pe_callB call_lenQ (by rfl) T.b_len boot_len (pa_cons (pe_ix ix_list (pv 0) pe_int (fun _ _ => rfl)) pa_nil)) (nomark _)) (pss_cons (ps_set (i := 2) sc_l_pick.nd rfl (by first | exact Or.inl rfl | exact Or.inr rfl) (pe_ix ix_list (pe_ix ix_list (pv 0) pe_int (fun _ _ => rfl)) (pe_ix ix_list (pv 0) pe_int (fun _ _ => rfl)) (fun _ _ => rfl)))
  (pss_cons (ps_asg (pe_op op_add (pe_ix ix_list (pv 0) pe_int (fun _ _ => rfl)) pe_int) (pg_sub (pv 0) pe_int set_list))
  (pss_cons (ps_set (i := 4) sc_l_pick.nd rfl (by first | exact Or.inl rfl | exact Or.inr rfl) (pe_op op_mod (pe_callTy call_intI (by rfl) T.b_int boot_int (pa_cons (pe_can C_l_mix hr (by decide) rfl (pa_cons (pe_op op_add (pv 2) (pe_op op_mul pe_int (pe_ix ix_list (pv 0) pe_int (fun _ _ => rfl)))) (pa_cons (pe_ix ix_list (pv 0) pe_int (fun _ _ => rfl)) pa_nil))) pa_nil)) (pv 1)))
  (pss_cons (ps_if (pt_cmpR op_eq (pe_ix ix_list (pv 0) pe_int (fun _ _ => rfl)) pe_int (nomark _)) (pss_cons (ps_asg pe_int (pg_sub (pv 0) pe_int set_list))
  (pss_one (ps_asg (pe_op op_add (pe_ix ix_list (pv 0) pe_int (fun _ _ => rfl)) pe_int) (pg_sub (pv 0) pe_int set_list)))) pss_nil)
  (pss_one (ps_ret (pv 4))))))) pss_nil)
  (pss_cons (ps_asg (pe_op op_add (pe_ix ix_list (pv 0) pe_int (fun _ _ => rfl)) pe_int) (pg_sub (pv 0) pe_int set_list))
  (pss_one (ps_ret (pe_op op_mod (pe_callTy call_intI (by rfl) T.b_int boot_int (pa_cons (pe_can C_l_mix hr (by decide) rfl (pa_cons (pe_ix ix_list (pv 0) pe_int (fun _ _ => rfl)) (pa_cons (pe_op op_add (pe_ix ix_list (pv 0) pe_int (fun _ _ => rfl)) pe_int) pa_nil))) pa_nil)) (pv 1))))))))), ?_⟩)
  · obtain ⟨_, _, _, _, rfl, _⟩ := h
    rfl
  · obtain ⟨c, d, m, ns, rfl, hD, hm, q⟩ := h
    obtain ⟨i, n, big, cnt, b0, hd, hi⟩ := hD.ex
    have hc : SqL K H c (ns.map V.int) := Evl.sq_of hD.cells
    have hm9 : m.natAbs.log2 < 9000 ∨ m < 2 := by
      by_cases h2 : m < 2
      · exact .inr h2
      · left
        have h3 : m.natAbs < 2 ^ 200 := by omega
        have := PySem.Flt.log2_lt_of (by decide : 0 < 200) h3
        omega
    walk_at "rd"
    refine r_ite (fun h => ?_) (fun h => ?_)
    · walk_at "rd"
      exact q 0 H (Int.le_refl _) (.inr rfl) (Kp.refl _ _) hD
    walk_at "rd"
    refine r_cut (Mid := fun σ' H' => ∃ x2, σ' = [some (.ref d), some (.int m), x2, none, none] ∧ Kp d H H' ∧ Dr ns c d H') ?_ ?_
    · walk_at "rd"
      have end0 : ∀ x2, ∃ x3, [some (V.ref d), some (V.int m), x2, none, none] = [some (V.ref d), some (V.int m), x3, none, none] ∧ Kp d H H ∧ Dr ns c d H := fun x2 => ⟨x2, rfl, Kp.refl _ _, hD⟩
      refine r_ite (fun h1 => ?_) (fun h1 => ?_)
      · walk_at "rd"
        refine r_ite (fun h2 => ?_) (fun h2 => ?_)
        · obtain ⟨z, hz⟩ := cell_at hi h2
          walk_at "rd"
          refine r_ite (fun h3 => ?_) (fun h3 => ?_)
          · walk_at "rd"
            have big2 : ∃ x3 : Option V, [some (V.ref d), some (V.int m), some (V.int z), none, none] = [some (V.ref d), some (V.int m), x3, none, none] ∧ Kp d H (upd (upd H d (.lst [.ref c, .int i, .int ((if z < 0 then -z else z) % Big), .int cnt, .int n, .int b0])) d (.lst [.ref c, .int (i + 1), .int ((if z < 0 then -z else z) % Big), .int cnt, .int n, .int b0])) ∧ Dr ns c d (upd (upd H d (.lst [.ref c, .int i, .int ((if z < 0 then -z else z) % Big), .int cnt, .int n, .int b0])) d (.lst [.ref c, .int (i + 1), .int ((if z < 0 then -z else z) % Big), .int cnt, .int n, .int b0])) := ⟨_, rfl, kp2, hD.put2 (by omega)⟩
            refine r_ite (fun h4 => ?_) (fun h4 => ?_)
            · walk_at "rd"
              exact big2
            · walk_at "rd"
              refine r_ite (fun h5 => ?_) (fun h5 => ?_)
              · walk_at "rd"
                exact big2
              · walk_at "rd"
                exact end0 _
          · walk_at "rd"
            exact end0 _
        · walk_at "rd"
          exact end0 _
      · walk_at "rd"
        exact end0 _
    · rintro σ' H' ⟨x2, rfl, kp, hD'⟩
      clear hd hi hc
      obtain ⟨i, n, big, cnt, b0, hd, hi⟩ := hD'.ex
      have hc : SqL K H' c (ns.map V.int) := Evl.sq_of hD'.cells
      have hm0 : 0 < m := by omega
      have dv : CDivW big m := ⟨hm0, by omega⟩
      walk_at "rd"
      refine r_ite (fun h1 => ?_) (fun h1 => ?_)
      · walk_at "rd"
        exact q _ _ (Int.emod_nonneg _ (by omega)) (.inl (Int.emod_lt_of_pos _ hm0)) (kp.trans Kp.upd) (hD'.put hi)
      · walk_at "rd"
        refine r_ite (fun h2 => ?_) (fun h2 => ?_)
        · obtain ⟨z, hz⟩ := cell_at hi h2
          walk_at "rd"
          refine ⟨_, _, rfl, fun k => ?_⟩
          walk_at "rd"
          refine r_ite (fun h3 => ?_) (fun h3 => ?_)
          · walk_at "rd"
            exact q _ _ (Int.emod_nonneg _ (by omega)) (.inl (Int.emod_lt_of_pos _ hm0)) (kp.trans kp3) (hD'.put3 (by omega))
          · walk_at "rd"
            exact q _ _ (Int.emod_nonneg _ (by omega)) (.inl (Int.emod_lt_of_pos _ hm0)) (kp.trans Kp.upd) (hD'.put hi)
        · walk_at "rd"
          refine ⟨_, _, rfl, fun k => ?_⟩
          walk_at "rd"
          exact q _ _ (Int.emod_nonneg _ (by omega)) (.inl (Int.emod_lt_of_pos _ hm0)) (kp.trans Kp.upd) (hD'.put hi)
end
end Fk

set_option Elab.async false
set_option linter.all false
set_option maxRecDepth 100000
set_option maxHeartbeats 4000000
namespace Rt
open Fg
/-! ### rhythm texts as they are written -/
abbrev It (α : Type) := Nat × (Nat ⊕ α)
abbrev Pt (α : Type) := List (It α) × Nat
abbrev Tx (α : Type) := List (Pt α)
def T : Nat → Type
  | 0 => Empty
  | n + 1 => Tx (T n)
def digs (t : Nat) : List Nat := if t < 10 then [48 + t] else [48 + t / 10, 48 + t % 10]
section
variable {α : Type}
def wItem (w : α → List Nat) (i : It α) : List Nat := (if 0 < i.1 then digs i.1 else []) ++ match i.2 with
  | .inl c => [c]
  | .inr x => 40 :: (w x ++ [41])
def wPart (w : α → List Nat) (p : Pt α) : List Nat := (p.1.map (wItem w)).flatten ++ (if 0 < p.2 then 64 :: digs p.2 else [])
def wText (w : α → List Nat) : Tx α → List Nat
  | [] => []
  | [p] => wPart w p
  | p :: q :: r => wPart w p ++ 38 :: wText w (q :: r)
def cItem (f : α → Nat) (i : It α) : Nat := max 1 i.1 * match i.2 with
  | .inl _ => 1
  | .inr x => f x
def cItems (f : α → Nat) (l : List (It α)) : Nat := (l.map (cItem f)).sum
def cPart (f : α → Nat) (p : Pt α) : Nat := if 0 < p.2 then p.2 else cItems f p.1
def cText (f : α → Nat) (ps : Tx α) : Nat := ps.foldl (fun a p => Nat.lcm a (cPart f p)) 1
def sItem (g : α → Nat → Nat) (i : It α) (s : Nat) : Nat := match i.2 with
  | .inl c => c
  | .inr x => g x s
def sItems (f : α → Nat) (g : α → Nat → Nat) : List (It α) → Nat → Nat
  | [], _ => 46
  | i :: r, s => if s < cItem f i then sItem g i s else sItems f g r (s - cItem f i)
def sText (f : α → Nat) (g : α → Nat → Nat) : Tx α → Nat → Nat
  | [], _ => 46
  | p :: r, s => if sItems f g p.1 (s % cPart f p) ≠ 46 then sItems f g p.1 (s % cPart f p) else sText f g r s
/-- what can be written, so that it is read back -/
def okItem (ok : α → Prop) (i : It α) : Prop := match i.2 with
  | .inl c => isSg c = true ∧ (i.1 = 0 ∨ 2 ≤ i.1 ∧ i.1 ≤ 24)
  | .inr x => 2 ≤ i.1 ∧ i.1 ≤ 24 ∧ ok x
def okPart (ok : α → Prop) (f : α → Nat) (p : Pt α) : Prop := p.1 ≠ [] ∧ (∀ i ∈ p.1, okItem ok i) ∧ (p.2 = 0 ∨ cItems f p.1 ≤ p.2 ∧ p.2 ≤ 24)
def okText (ok : α → Prop) (f : α → Nat) (ps : Tx α) : Prop := ps ≠ [] ∧ ∀ p ∈ ps, okPart ok f p
end
def wT : (n : Nat) → T n → List Nat
  | 0, x => nomatch x
  | n + 1, x => wText (wT n) x
def cT : (n : Nat) → T n → Nat
  | 0, x => nomatch x
  | n + 1, x => cText (cT n) x
def sT : (n : Nat) → T n → Nat → Nat
  | 0, x => nomatch x
  | n + 1, x => sText (cT n) (sT n) x
def okT : (n : Nat) → T n → Prop
  | 0, x => nomatch x
  | n + 1, x => okText (okT n) (cT n) x
def rowOf (m : Nat) (s : Nat → Nat) : List Nat := if m ≤ 24 then (List.range m).map s else []

theorem digs_dig : ∀ t : Fin 25, ∀ c ∈ digs t.val, isDig c = true := by decide +kernel
theorem digs_val : ∀ t : Fin 25, dval ((digs t.val).take 3) = t.val := by decide +kernel
theorem digs_hd : ∀ t : Fin 25, 0 < t.val → ∃ d ds, digs t.val = d :: ds ∧ d ≠ 48 := by
  intro t ht
  unfold digs
  split
  · exact ⟨_, _, rfl, by omega⟩
  · exact ⟨_, _, rfl, by omega⟩
theorem tw_app {p : Nat → Bool} : ∀ (a b : List Nat), (∀ c ∈ a, p c = true) → (∀ c ∈ b.head?, p c = false) → (a ++ b).takeWhile p = a ∧ (a ++ b).dropWhile p = b
  | [], [], _, _ => ⟨rfl, rfl⟩
  | [], c :: r, _, h => by
    have hc := h c (by simp)
    exact ⟨by simp [hc], by simp [hc]⟩
  | x :: a, b, h, k => by
    obtain ⟨h1, h2⟩ := tw_app a b (fun c hc => h c (List.mem_cons_of_mem _ hc)) k
    have hx := h x (List.mem_cons_self ..)
    exact ⟨by rw [List.cons_append, List.takeWhile_cons, hx]; simp [h1], by rw [List.cons_append, List.dropWhile_cons, hx]; simp [h2]⟩
theorem digs_rs {t : Nat} (h : t ≤ 24) {b : List Nat} (hb : ∀ c ∈ b.head?, isDig c = false) : dsOf (digs t ++ b) = digs t ∧ rsOf (digs t ++ b) = b :=
  tw_app _ _ (digs_dig ⟨t, by omega⟩) hb
theorem sg_dig {c : Nat} (h : isSg c = true) : isDig c = false := by
  have h := of_decide_eq_true h
  unfold isDig
  exact decide_eq_false (by omega)
theorem rep_range {m t : Nat} {s : Nat → Nat} (hp : ∀ k, s (k + m) = s k) : rep t ((List.range m).map s) = (List.range (t * m)).map s := by
  have hp2 : ∀ j k, s (k + j * m) = s k := by
    intro j
    induction j with
    | zero => intro k; rw [Nat.zero_mul, Nat.add_zero]
    | succ j ih => intro k; rw [Nat.succ_mul, ← Nat.add_assoc, hp, ih]
  unfold rep
  induction t with
  | zero => rw [Nat.zero_mul]; rfl
  | succ t ih =>
    rw [List.replicate_succ', List.flatten_append, ih, Nat.succ_mul, List.range_add, List.map_append, List.map_map]
    congr 1
    rw [List.flatten_cons, List.flatten_nil, List.append_nil]
    apply List.map_congr_left
    intro k _
    show s k = s (t * m + k)
    rw [Nat.add_comm, hp2]
section
variable {α : Type} {w : α → List Nat} {f : α → Nat} {g : α → Nat → Nat} {ok : α → Prop} {inner : Option (List Nat → Res)}
theorem rowOf_const {m c : Nat} (h : m ≤ 24) : rowOf m (fun _ => c) = List.replicate m c := by
  unfold rowOf
  rw [if_pos h]
  induction m with
  | zero => rfl
  | succ m ih => rw [List.range_succ, List.map_append, ih (by omega), List.replicate_succ']; rfl
theorem rd_item (hi : ∀ x, ok x → ∃ h, inner = some h ∧ ∀ rest, h (w x ++ 41 :: rest) = .ok (41 :: rest, f x, rowOf (f x) (g x))) (hp : ∀ x, ok x → ∀ k, g x (k + f x) = g x k) (hpos : ∀ x, ok x → 1 ≤ f x)
    (i : It α) (hok : okItem ok i) (rest : List Nat) : rdItem inner (wItem w i ++ rest) = .ok (rest, cItem f i, rowOf (cItem f i) (sItem g i)) := by
  obtain ⟨t, b⟩ := i
  cases b with
  | inl c =>
    obtain ⟨hc, ht⟩ := hok
    have hc' : isSg c = true := hc
    rcases ht with ht | ht
    · have ht' : t = 0 := ht
      subst ht'
      show rdItem inner (c :: rest) = .ok (rest, max 1 0 * 1, rowOf (max 1 0 * 1) (fun _ => c))
      have hd : dsOf (c :: rest) = [] := by
        unfold dsOf
        rw [List.takeWhile_cons, sg_dig hc']
        rfl
      unfold rdItem
      rw [hd]
      rfl
    · have ht' : 2 ≤ t ∧ t ≤ 24 := ht
      have e : wItem w (t, .inl c) ++ rest = digs t ++ c :: rest := by
        show ((if 0 < t then digs t else []) ++ [c]) ++ rest = _
        rw [if_pos (by omega), List.append_assoc]
        rfl
      obtain ⟨h1, h2⟩ := digs_rs ht'.2 (b := c :: rest) (fun x hx => by
        have : x = c := by simpa using hx.symm
        rw [this]; exact sg_dig hc')
      obtain ⟨d, ds, hd, hd48⟩ := digs_hd ⟨t, by omega⟩ (by show 0 < t; omega)
      have hd' : digs t = d :: ds := hd
      have hv : dval ((d :: ds).take 3) = t := by rw [← hd']; exact digs_val ⟨t, by omega⟩
      rw [hd'] at h1 h2
      rw [e]
      have em : cItem f (t, .inl c) = t := by
        show max 1 t * 1 = t
        rw [Nat.mul_one, Nat.max_eq_right (by omega)]
      rw [em]
      show _ = Except.ok (rest, t, rowOf t (fun _ => c))
      rw [rowOf_const ht'.2]
      unfold rdItem
      rw [hd', h1]
      simp only [if_neg hd48]
      rw [h2]
      simp only [hc', if_true]
      rw [hv, if_pos ht']
  | inr x =>
    obtain ⟨t2, t24, hx⟩ := hok
    have t2' : 2 ≤ t := t2
    have t24' : t ≤ 24 := t24
    have e : wItem w (t, .inr x) ++ rest = digs t ++ 40 :: (w x ++ 41 :: rest) := by
      show ((if 0 < t then digs t else []) ++ (40 :: (w x ++ [41]))) ++ rest = _
      rw [if_pos (by omega)]
      simp
    obtain ⟨h1, h2⟩ := digs_rs t24' (b := 40 :: (w x ++ 41 :: rest)) (fun y hy => by
      have : y = 40 := by simpa using hy.symm
      rw [this]; rfl)
    obtain ⟨d, ds, hd, hd48⟩ := digs_hd ⟨t, by omega⟩ (by show 0 < t; omega)
    have hd' : digs t = d :: ds := hd
    have hv : dval ((d :: ds).take 3) = t := by rw [← hd']; exact digs_val ⟨t, by omega⟩
    rw [hd'] at h1 h2
    rw [e]
    have em : cItem f (t, .inr x) = t * f x := by
      show max 1 t * f x = t * f x
      rw [Nat.max_eq_right (by omega)]
    rw [em]
    show _ = Except.ok (rest, t * f x, rowOf (t * f x) (g x))
    obtain ⟨h, hin, hr⟩ := hi x hx
    unfold rdItem
    rw [hd', h1]
    simp only [if_neg hd48]
    rw [h2]
    show (if isSg 40 = true then _ else _) = _
    rw [if_neg (show ¬ isSg 40 = true by decide), if_pos rfl, hv, if_pos ⟨t2', t24'⟩, hin]
    show (match h (w x ++ 41 :: rest) with
      | .error e => Except.error e
      | .ok (r2, b, row) => .ok (r2.drop 1, t * b, kept (t * b) (rep t row))) = _
    rw [hr rest]
    show Except.ok (rest, t * f x, kept (t * f x) (rep t (rowOf (f x) (g x)))) = _
    have er : kept (t * f x) (rep t (rowOf (f x) (g x))) = rowOf (t * f x) (g x) := by
      unfold kept rowOf
      by_cases z : t * f x ≤ 24
      · have z2 : f x ≤ 24 := Nat.le_trans (Nat.le_mul_of_pos_left _ (by omega)) z
        rw [if_pos z, if_pos z, if_pos z2]
        exact rep_range (hp x hx)
      · rw [if_neg z, if_neg z]
    rw [er]
theorem it_stop {item : List Nat → Res} {s : List Nat} (h : goes s = false) : ∀ (n b : Nat) (r : List Nat), rdItems item n s b r = .ok (s, b, r)
  | 0, b, r => rfl
  | n + 1, b, r => by
    unfold rdItems
    rw [h]
    rfl
theorem it_go {item : List Nat → Res} {s : List Nat} {n b : Nat} {r : List Nat} {s2 : List Nat} {m : Nat} {x : List Nat} (h : goes s = true) (hx : item s = .ok (s2, m, x)) : rdItems item (n + 1) s b r = rdItems item n s2 (b + m) (kept (b + m) (r ++ x)) := by
  show (if goes s = true then _ else _) = _
  rw [if_pos h, hx]
def rowsOf (f : α → Nat) (g : α → Nat → Nat) (l : List (It α)) : List Nat := (l.map fun i => rowOf (cItem f i) (sItem g i)).flatten
theorem item_goes {i : It α} (h : okItem ok i) (rest : List Nat) : goes (wItem w i ++ rest) = true := by
  obtain ⟨t, b⟩ := i
  by_cases ht : 0 < t
  · have hd : digs t ≠ [] := by unfold digs; split <;> simp
    have h24 : t ≤ 24 := by
      cases b with
      | inl c => rcases h.2 with z | z
                 · have z' : t = 0 := z
                   omega
                 · exact z.2
      | inr x => exact h.2.1
    have e : ∃ d r, wItem w (t, b) ++ rest = d :: r ∧ isDig d = true := by
      cases hq : digs t with
      | nil => exact absurd hq hd
      | cons d ds =>
        refine ⟨d, ?_⟩
        unfold wItem
        rw [if_pos ht, hq]
        exact ⟨_, rfl, digs_dig ⟨t, by omega⟩ d (by rw [hq]; exact List.mem_cons_self ..)⟩
    obtain ⟨d, r, e, hd2⟩ := e
    rw [e]
    show (isSg d || isDig d) = true
    rw [hd2, Bool.or_true]
  · have ht0 : t = 0 := by omega
    subst ht0
    cases b with
    | inl c =>
      show (isSg c || isDig c) = true
      rw [show isSg c = true from h.1]
      rfl
    | inr x =>
      have : 2 ≤ 0 := h.1
      omega
theorem rd_items {item : List Nat → Res} (HI : ∀ i, okItem ok i → ∀ rest, item (wItem w i ++ rest) = .ok (rest, cItem f i, rowOf (cItem f i) (sItem g i))) :
    ∀ (l : List (It α)) (n b : Nat) (r rest : List Nat), (∀ i ∈ l, okItem ok i) → goes rest = false → l.length ≤ n → (24 < b → r = []) →
      rdItems item n ((l.map (wItem w)).flatten ++ rest) b r = .ok (rest, b + cItems f l, kept (b + cItems f l) (r ++ rowsOf f g l))
  | [], n, b, r, rest, _, hr, _, hb => by
    show rdItems item n rest b r = .ok (rest, b + 0, kept (b + 0) (r ++ []))
    rw [it_stop hr, Nat.add_zero, List.append_nil]
    unfold kept
    split
    · rfl
    · rw [hb (by omega)]
  | i :: l, n, b, r, rest, ho, hr, hn, hb => by
    obtain ⟨k, rfl⟩ : ∃ k, n = k + 1 := ⟨n - 1, by rw [List.length_cons] at hn; omega⟩
    have oi := ho i (List.mem_cons_self ..)
    have e : ((i :: l).map (wItem w)).flatten ++ rest = wItem w i ++ ((l.map (wItem w)).flatten ++ rest) := by
      rw [List.map_cons, List.flatten_cons, List.append_assoc]
    rw [e, it_go (item_goes oi _) (HI i oi _)]
    rw [rd_items HI l k _ _ rest (fun j hj => ho j (List.mem_cons_of_mem _ hj)) hr (by rw [List.length_cons] at hn; omega) (fun z => by unfold kept; rw [if_neg (by omega)])]
    have ec : cItems f (i :: l) = cItem f i + cItems f l := by unfold cItems; rw [List.map_cons, List.sum_cons]
    have er : rowsOf f g (i :: l) = rowOf (cItem f i) (sItem g i) ++ rowsOf f g l := by unfold rowsOf; rw [List.map_cons, List.flatten_cons]
    rw [ec, er, ← Nat.add_assoc]
    by_cases z : b + cItem f i + cItems f l ≤ 24
    · have z2 : b + cItem f i ≤ 24 := by omega
      unfold kept
      rw [if_pos z, if_pos z, if_pos z2, List.append_assoc]
    · unfold kept
      rw [if_neg z, if_neg z]
theorem cItem_pos (hpos : ∀ x, ok x → 1 ≤ f x) {i : It α} (h : okItem ok i) : 1 ≤ cItem f i := by
  obtain ⟨t, b⟩ := i
  cases b with
  | inl c =>
    show 1 ≤ max 1 t * 1
    omega
  | inr x =>
    have h1 : 1 ≤ f x := hpos x h.2.2
    exact Nat.mul_pos (by show 0 < max 1 t; omega) h1
theorem cItems_pos (hpos : ∀ x, ok x → 1 ≤ f x) {l : List (It α)} (hl : l ≠ []) (h : ∀ i ∈ l, okItem ok i) : 1 ≤ cItems f l := by
  cases l with
  | nil => exact absurd rfl hl
  | cons i r =>
    have := cItem_pos hpos (h i (List.mem_cons_self ..))
    unfold cItems
    rw [List.map_cons, List.sum_cons]
    omega
theorem rows_eq : ∀ (l : List (It α)), cItems f l ≤ 24 → rowsOf f g l = (List.range (cItems f l)).map (sItems f g l)
  | [], _ => rfl
  | i :: l, h => by
    have ec : cItems f (i :: l) = cItem f i + cItems f l := by unfold cItems; rw [List.map_cons, List.sum_cons]
    have er : rowsOf f g (i :: l) = rowOf (cItem f i) (sItem g i) ++ rowsOf f g l := by unfold rowsOf; rw [List.map_cons, List.flatten_cons]
    rw [ec] at h
    rw [ec, er, rows_eq l (by omega), List.range_add, List.map_append, List.map_map]
    congr 1
    · unfold rowOf
      rw [if_pos (by omega)]
      apply List.map_congr_left
      intro s hs
      have hs' := List.mem_range.mp hs
      show _ = if s < cItem f i then _ else _
      rw [if_pos hs']
    · apply List.map_congr_left
      intro s _
      show _ = if cItem f i + s < cItem f i then _ else _
      rw [if_neg (by omega), show cItem f i + s - cItem f i = s by omega]
theorem sItems_end : ∀ (l : List (It α)) (s : Nat), cItems f l ≤ s → sItems f g l s = 46
  | [], s, _ => rfl
  | i :: l, s, h => by
    have ec : cItems f (i :: l) = cItem f i + cItems f l := by unfold cItems; rw [List.map_cons, List.sum_cons]
    rw [ec] at h
    show (if s < cItem f i then _ else _) = _
    rw [if_neg (by omega)]
    exact sItems_end l _ (by omega)
theorem len_items : ∀ l : List (It α), l.length ≤ ((l.map (wItem w)).flatten).length
  | [] => Nat.le_refl _
  | i :: l => by
    rw [List.map_cons, List.flatten_cons, List.length_append, List.length_cons]
    have h1 := len_items l
    have h2 : 1 ≤ (wItem w i).length := by
      obtain ⟨t, b⟩ := i
      unfold wItem
      rw [List.length_append]
      cases b with
      | inl c => show 1 ≤ _ + 1; omega
      | inr x => show 1 ≤ _ + ((w x ++ [41]).length + 1); omega
    omega
def behind (b : Nat) (r : List Nat) : List Nat → Res
  | [] => .ok ([], b, r)
  | c :: s3 => if c = 64 then rdWhole s3 b r else .ok (c :: s3, b, r)
theorem part_of {item : List Nat → Res} {s s2 : List Nat} {b : Nat} {r : List Nat} (h : rdItems item s.length s 0 [] = .ok (s2, b, r)) (hb : b ≠ 0) : rdPart item s = behind b r s2 := by
  unfold rdPart
  rw [h]
  show (if b = 0 then _ else _) = _
  rw [if_neg hb]
  cases s2 <;> rfl
theorem kept_rows {l : List (It α)} : kept (0 + cItems f l) ([] ++ rowsOf f g l) = rowOf (cItems f l) (sItems f g l) := by
  rw [Nat.zero_add, List.nil_append]
  unfold kept rowOf
  by_cases z : cItems f l ≤ 24
  · rw [if_pos z, if_pos z, rows_eq l z]
  · rw [if_neg z, if_neg z]
theorem rd_part {item : List Nat → Res} (HI : ∀ i, okItem ok i → ∀ rest, item (wItem w i ++ rest) = .ok (rest, cItem f i, rowOf (cItem f i) (sItem g i))) (hpos : ∀ x, ok x → 1 ≤ f x)
    (p : Pt α) (hp : okPart ok f p) (rest : List Nat) (hr : ∀ c ∈ rest.head?, c = 38 ∨ c = 41) : rdPart item (wPart w p ++ rest) = .ok (rest, cPart f p, rowOf (cPart f p) (sItems f g p.1)) := by
  obtain ⟨l, fill⟩ := p
  obtain ⟨hl, ho, hf⟩ := hp
  have hl' : l ≠ [] := hl
  have ho' : ∀ i ∈ l, okItem ok i := ho
  have p1 := cItems_pos hpos hl' ho'
  have hn := len_items (w := w) l
  rcases hf with hf | hf
  · have hf' : fill = 0 := hf
    subst hf'
    have e : wPart w (l, 0) ++ rest = (l.map (wItem w)).flatten ++ rest := by
      show ((l.map (wItem w)).flatten ++ []) ++ rest = _
      rw [List.append_nil]
    have ec : cPart f (l, 0) = cItems f l := rfl
    have hg : goes rest = false := by
      cases rest with
      | nil => rfl
      | cons c r =>
        have := hr c (by simp)
        rcases this with z | z <;> subst z <;> rfl
    have h := rd_items (f := f) (g := g) HI l (((l.map (wItem w)).flatten ++ rest).length) 0 [] rest ho' hg (by rw [List.length_append]; omega) (fun z => absurd z (by decide))
    rw [kept_rows, Nat.zero_add] at h
    rw [e, ec, part_of h (by omega)]
    cases rest with
    | nil => rfl
    | cons c r =>
      have := hr c (by simp)
      show (if c = 64 then _ else _) = _
      rw [if_neg (by omega)]
  · have hf1 : cItems f l ≤ fill := hf.1
    have hf2 : fill ≤ 24 := hf.2
    have e : wPart w (l, fill) ++ rest = (l.map (wItem w)).flatten ++ (64 :: (digs fill ++ rest)) := by
      show ((l.map (wItem w)).flatten ++ (if 0 < fill then 64 :: digs fill else [])) ++ rest = _
      rw [if_pos (by omega), List.append_assoc]
      rfl
    have ec : cPart f (l, fill) = fill := by
      show (if 0 < fill then fill else _) = fill
      rw [if_pos (by omega)]
    have h := rd_items (f := f) (g := g) HI l (((l.map (wItem w)).flatten ++ (64 :: (digs fill ++ rest))).length) 0 [] (64 :: (digs fill ++ rest)) ho' rfl (by rw [List.length_append]; omega) (fun z => absurd z (by decide))
    rw [kept_rows, Nat.zero_add] at h
    rw [e, ec, part_of h (by omega)]
    show rdWhole (digs fill ++ rest) (cItems f l) (rowOf (cItems f l) (sItems f g l)) = _
    obtain ⟨h1, h2⟩ := digs_rs hf2 (b := rest) (fun c hc => by
      rcases hr c hc with z | z <;> subst z <;> rfl)
    obtain ⟨d, ds, hd, hd48⟩ := digs_hd ⟨fill, by omega⟩ (by show 0 < fill; omega)
    have hd' : digs fill = d :: ds := hd
    have hv : dval ((d :: ds).take 3) = fill := by rw [← hd']; exact digs_val ⟨fill, by omega⟩
    rw [hd'] at h1 h2
    unfold rdWhole
    rw [hd', h1]
    simp only [if_neg hd48]
    rw [hv, if_pos ⟨hf1, hf2⟩, h2]
    have er : rowOf (cItems f l) (sItems f g l) ++ List.replicate (fill - cItems f l) 46 = rowOf fill (sItems f g l) := by
      unfold rowOf
      rw [if_pos hf2, if_pos (by omega)]
      have e3 : fill = cItems f l + (fill - cItems f l) := by omega
      conv => rhs; rw [e3]
      rw [List.range_add, List.map_append, List.map_map]
      congr 1
      have e4 := rowOf_const (m := fill - cItems f l) (c := 46) (by omega)
      unfold rowOf at e4
      rw [if_pos (by omega)] at e4
      rw [← e4]
      apply List.map_congr_left
      intro s _
      show 46 = sItems f g l (cItems f l + s)
      rw [sItems_end l _ (by omega)]
    rw [er]
def tailW (w : α → List Nat) (qs : Tx α) : List Nat := (qs.map fun q => 38 :: wPart w q).flatten
theorem wText_eq : ∀ (p : Pt α) (qs : Tx α), wText w (p :: qs) = wPart w p ++ tailW w qs
  | p, [] => by
    show wPart w p = wPart w p ++ []
    rw [List.append_nil]
  | p, q :: r => by
    show wPart w p ++ 38 :: wText w (q :: r) = _
    rw [wText_eq q r]
    show _ = wPart w p ++ ((38 :: wPart w q) ++ tailW w r)
    rfl
theorem foldl_dvd : ∀ (ps : Tx α) (a : Nat), a ∣ ps.foldl (fun a p => Nat.lcm a (cPart f p)) a ∧ ∀ p ∈ ps, cPart f p ∣ ps.foldl (fun a p => Nat.lcm a (cPart f p)) a
  | [], a => ⟨Nat.dvd_refl a, fun p h => nomatch h⟩
  | q :: ps, a => by
    obtain ⟨h1, h2⟩ := foldl_dvd ps (Nat.lcm a (cPart f q))
    refine ⟨Nat.dvd_trans (Nat.dvd_lcm_left a _) h1, fun p hp => ?_⟩
    rcases List.mem_cons.mp hp with rfl | hp
    · exact Nat.dvd_trans (Nat.dvd_lcm_right a _) h1
    · exact h2 p hp
theorem cText_snoc (ps : Tx α) (q : Pt α) : cText f (ps ++ [q]) = Nat.lcm (cText f ps) (cPart f q) := by
  unfold cText
  rw [List.foldl_append]
  rfl
theorem sText_per : ∀ (ps : Tx α) (m : Nat), (∀ p ∈ ps, cPart f p ∣ m) → ∀ k, sText f g ps (k + m) = sText f g ps k
  | [], m, _, k => rfl
  | p :: ps, m, h, k => by
    obtain ⟨j, hj⟩ := h p (List.mem_cons_self ..)
    have e : (k + m) % cPart f p = k % cPart f p := by rw [hj, Nat.add_mul_mod_self_left]
    show (if sItems f g p.1 ((k + m) % cPart f p) ≠ 46 then _ else _) = _
    rw [e, sText_per ps m (fun q hq => h q (List.mem_cons_of_mem _ hq)) k]
    rfl
theorem text_per (ps : Tx α) (k : Nat) : sText f g ps (k + cText f ps) = sText f g ps k := sText_per ps _ (foldl_dvd ps 1).2 k
theorem sText_snoc : ∀ (ps : Tx α) (q : Pt α) (k : Nat), sText f g (ps ++ [q]) k = if sText f g ps k ≠ 46 then sText f g ps k else sItems f g q.1 (k % cPart f q)
  | [], q, k => by
    show (if sItems f g q.1 (k % cPart f q) ≠ 46 then sItems f g q.1 (k % cPart f q) else 46) = if (46 : Nat) ≠ 46 then 46 else _
    rw [if_neg (fun z : (46 : Nat) ≠ 46 => z rfl)]
    by_cases z : sItems f g q.1 (k % cPart f q) = 46
    · rw [if_neg (fun y => y z), z]
    · rw [if_pos z]
  | p :: ps, q, k => by
    show (if sItems f g p.1 (k % cPart f p) ≠ 46 then _ else sText f g (ps ++ [q]) k) = if (if sItems f g p.1 (k % cPart f p) ≠ 46 then sItems f g p.1 (k % cPart f p) else sText f g ps k) ≠ 46 then (if sItems f g p.1 (k % cPart f p) ≠ 46 then sItems f g p.1 (k % cPart f p) else sText f g ps k) else _
    by_cases z : sItems f g p.1 (k % cPart f p) = 46
    · have e1 : (if sItems f g p.1 (k % cPart f p) ≠ 46 then sItems f g p.1 (k % cPart f p) else sText f g ps k) = sText f g ps k := if_neg (fun y => y z)
      have e2 : (if sItems f g p.1 (k % cPart f p) ≠ 46 then sItems f g p.1 (k % cPart f p) else sText f g (ps ++ [q]) k) = sText f g (ps ++ [q]) k := if_neg (fun y => y z)
      rw [e1, e2]
      exact sText_snoc ps q k
    · rw [if_pos z, if_pos z, if_pos z]
theorem per_mod {m : Nat} {s : Nat → Nat} (hp : ∀ k, s (k + m) = s k) (k : Nat) : s (k % m) = s k := by
  have h : ∀ j k, s (k + m * j) = s k := by
    intro j
    induction j with
    | zero => intro k; rw [Nat.mul_zero, Nat.add_zero]
    | succ j ih => intro k; rw [Nat.mul_succ, ← Nat.add_assoc, hp, ih]
  conv => rhs; rw [← Nat.mod_add_div k m]
  rw [h]
theorem rowOf_get {m : Nat} {s : Nat → Nat} (hm : m ≤ 24) {i : Nat} (hi : i < m) : ((rowOf m s)[i]?).getD 0 = s i := by
  unfold rowOf
  rw [if_pos hm, List.getElem?_map, List.getElem?_range hi]
  rfl
theorem tog_eq {b b2 : Nat} {s1 s2 : Nat → Nat} (p1 : 1 ≤ b) (p2 : 1 ≤ b2) (hp : ∀ k, s1 (k + b) = s1 k) : tog b (rowOf b s1) b2 (rowOf b2 s2) = rowOf (Nat.lcm b b2) (fun k => if s1 k ≠ 46 then s1 k else s2 (k % b2)) := by
  obtain ⟨l1, l2, _, _⟩ := lcm_le p1 p2
  unfold tog
  by_cases z : Nat.lcm b b2 ≤ 24
  · rw [if_pos z]
    conv => rhs; unfold rowOf
    rw [if_pos z]
    apply List.map_congr_left
    intro i _
    rw [rowOf_get (by omega) (Nat.mod_lt _ p1), rowOf_get (by omega) (Nat.mod_lt _ p2), per_mod hp]
    by_cases y : s1 i = 46
    · rw [if_pos y, if_neg (fun x => x y)]
    · rw [if_neg y, if_pos y]
  · rw [if_neg z]
    unfold rowOf
    rw [if_neg z]
theorem cPart_pos (hpos : ∀ x, ok x → 1 ≤ f x) {p : Pt α} (h : okPart ok f p) : 1 ≤ cPart f p := by
  unfold cPart
  split
  · assumption
  · exact cItems_pos hpos h.1 h.2.1
theorem cText_pos (hpos : ∀ x, ok x → 1 ≤ f x) (ps : Tx α) (h : ∀ p ∈ ps, okPart ok f p) : 1 ≤ cText f ps := by
  have : ∀ (ps : Tx α) (a : Nat), 1 ≤ a → (∀ p ∈ ps, okPart ok f p) → 1 ≤ ps.foldl (fun a p => Nat.lcm a (cPart f p)) a := by
    intro ps
    induction ps with
    | nil => intro a ha _; exact ha
    | cons p ps ih =>
      intro a ha h
      exact ih _ (Nat.lcm_pos ha (cPart_pos hpos (h p (List.mem_cons_self ..)))) (fun q hq => h q (List.mem_cons_of_mem _ hq))
  exact this ps 1 (Nat.le_refl 1) h
theorem jn_stop {part : List Nat → Res} {s : List Nat} (h : ∀ c ∈ s.head?, c ≠ 38) : ∀ (n b : Nat) (r : List Nat), rdJoin part n s b r = .ok (s, b, r)
  | 0, b, r => rfl
  | n + 1, b, r => by
    unfold rdJoin
    cases s with
    | nil => rfl
    | cons c s2 =>
      show (if c = 38 then _ else _) = _
      rw [if_neg (h c (by simp))]
theorem jn_go {part : List Nat → Res} {s2 s3 : List Nat} {n b b2 : Nat} {r r2 : List Nat} (h : part s2 = .ok (s3, b2, r2)) : rdJoin part (n + 1) (38 :: s2) b r = rdJoin part n s3 (Nat.lcm b b2) (tog b r b2 r2) := by
  have : ∀ c : Nat, c = 38 → rdJoin part (n + 1) (c :: s2) b r = rdJoin part n s3 (Nat.lcm b b2) (tog b r b2 r2) := by
    intro c hc
    show (if c = 38 then _ else _) = _
    rw [if_pos hc, h]
  exact this 38 rfl
theorem rd_join {part : List Nat → Res} (hpos : ∀ x, ok x → 1 ≤ f x) (HP : ∀ p, okPart ok f p → ∀ rest, (∀ c ∈ rest.head?, c = 38 ∨ c = 41) → part (wPart w p ++ rest) = .ok (rest, cPart f p, rowOf (cPart f p) (sItems f g p.1)))
    (rest : List Nat) (hr : ∀ c ∈ rest.head?, c = 41) : ∀ (qs ps : Tx α) (n : Nat), qs.length ≤ n → (∀ p ∈ ps, okPart ok f p) → (∀ q ∈ qs, okPart ok f q) →
      rdJoin part n (tailW w qs ++ rest) (cText f ps) (rowOf (cText f ps) (sText f g ps)) = .ok (rest, cText f (ps ++ qs), rowOf (cText f (ps ++ qs)) (sText f g (ps ++ qs)))
  | [], ps, n, _, hps, _ => by
    rw [List.append_nil]
    exact jn_stop (fun c hc => by have := hr c hc; omega) _ _ _
  | q :: qs, ps, n, hn, hps, hqs => by
    obtain ⟨k, rfl⟩ : ∃ k, n = k + 1 := ⟨n - 1, by rw [List.length_cons] at hn; omega⟩
    have oq := hqs q (List.mem_cons_self ..)
    have e : tailW w (q :: qs) ++ rest = 38 :: (wPart w q ++ (tailW w qs ++ rest)) := by
      show ((38 :: wPart w q) ++ tailW w qs) ++ rest = _
      rw [List.append_assoc]
      rfl
    have hh : ∀ c ∈ (tailW w qs ++ rest).head?, c = 38 ∨ c = 41 := by
      intro c hc
      cases qs with
      | nil => exact .inr (hr c hc)
      | cons q2 qs2 =>
        have : c = 38 := by
          have e2 : tailW w (q2 :: qs2) ++ rest = 38 :: (wPart w q2 ++ (tailW w qs2 ++ rest)) := by
            show ((38 :: wPart w q2) ++ tailW w qs2) ++ rest = _
            rw [List.append_assoc]
            rfl
          rw [e2] at hc
          simpa using hc.symm
        exact .inl this
    rw [e, jn_go (HP q oq _ hh), tog_eq (cText_pos hpos ps hps) (cPart_pos hpos oq) (text_per ps)]
    have e3 : (fun k => if sText f g ps k ≠ 46 then sText f g ps k else sItems f g q.1 (k % cPart f q)) = sText f g (ps ++ [q]) := by
      funext k
      rw [sText_snoc]
    rw [e3, ← cText_snoc]
    have ih := rd_join hpos HP rest hr qs (ps ++ [q]) k (by rw [List.length_cons] at hn; omega) (fun p hp => by
      rcases List.mem_append.mp hp with z | z
      · exact hps p z
      · have : p = q := by simpa using z
        rw [this]; exact oq) (fun p hp => hqs p (List.mem_cons_of_mem _ hp))
    rw [ih, List.append_assoc]
    rfl
theorem len_tail : ∀ qs : Tx α, qs.length ≤ (tailW w qs).length
  | [] => Nat.le_refl _
  | q :: qs => by
    have h1 := len_tail qs
    show qs.length + 1 ≤ ((38 :: wPart w q) ++ tailW w qs).length
    rw [List.length_append, List.length_cons]
    omega
theorem rd_text {part : List Nat → Res} (hpos : ∀ x, ok x → 1 ≤ f x) (HP : ∀ p, okPart ok f p → ∀ rest, (∀ c ∈ rest.head?, c = 38 ∨ c = 41) → part (wPart w p ++ rest) = .ok (rest, cPart f p, rowOf (cPart f p) (sItems f g p.1)))
    (hper : ∀ p, okPart ok f p → True) (ps : Tx α) (hps : okText ok f ps) (top : Bool) (rest : List Nat) (hr : ∀ c ∈ rest.head?, c = 41) (ht : rest.take 1 = endOf top) :
    rdParts part top (wText w ps ++ rest) = .ok (rest, cText f ps, rowOf (cText f ps) (sText f g ps)) := by
  obtain ⟨hne, ho⟩ := hps
  cases ps with
  | nil => exact absurd rfl hne
  | cons p qs =>
    have op := ho p (List.mem_cons_self ..)
    have hh : ∀ c ∈ (tailW w qs ++ rest).head?, c = 38 ∨ c = 41 := by
      intro c hc
      cases qs with
      | nil => exact .inr (hr c hc)
      | cons q2 qs2 =>
        have e2 : tailW w (q2 :: qs2) ++ rest = 38 :: (wPart w q2 ++ (tailW w qs2 ++ rest)) := by
          show ((38 :: wPart w q2) ++ tailW w qs2) ++ rest = _
          rw [List.append_assoc]
          rfl
        rw [e2] at hc
        exact .inl (by simpa using hc.symm)
    have h1 := HP p op _ hh
    have ec : cText f [p] = cPart f p := by
      show Nat.lcm 1 (cPart f p) = _
      rw [Nat.lcm_one_left]
    have p1 := cPart_pos hpos op
    have er : rowOf (cPart f p) (sItems f g p.1) = rowOf (cText f [p]) (sText f g [p]) := by
      rw [ec]
      unfold rowOf
      split
      · apply List.map_congr_left
        intro k hk
        have hk' := List.mem_range.mp hk
        show _ = if sItems f g p.1 (k % cPart f p) ≠ 46 then sItems f g p.1 (k % cPart f p) else 46
        rw [Nat.mod_eq_of_lt hk']
        by_cases z : sItems f g p.1 k = 46
        · rw [if_neg (fun y => y z), z]
        · rw [if_pos z]
      · rfl
    have h2 := rd_join (g := g) hpos HP rest hr qs [p] ((tailW w qs ++ rest).length) (by
      have := len_tail (w := w) qs
      rw [List.length_append]; omega) (fun q hq => by
        have : q = p := by simpa using hq
        rw [this]; exact op) (fun q hq => ho q (List.mem_cons_of_mem _ hq))
    rw [← er, ec] at h2
    rw [wText_eq, List.append_assoc]
    unfold rdParts
    rw [h1]
    show (match rdJoin part (tailW w qs ++ rest).length (tailW w qs ++ rest) (cPart f p) (rowOf (cPart f p) (sItems f g p.1)) with
      | .error e => Except.error e
      | .ok (s3, b3, r3) => if s3.take 1 = endOf top then .ok (s3, b3, r3) else .error s3.length) = _
    rw [h2]
    show (if rest.take 1 = endOf top then _ else _) = _
    rw [if_pos ht]
    rfl
end
theorem cT_pos : ∀ (n : Nat) (x : T n), okT n x → 1 ≤ cT n x
  | 0, x, _ => nomatch x
  | n + 1, x, h => by
    have h' : okText (okT n) (cT n) x := h
    exact cText_pos (ok := okT n) (f := cT n) (cT_pos n) x h'.2
theorem sT_per : ∀ (n : Nat) (x : T n) (k : Nat), sT n x (k + cT n x) = sT n x k
  | 0, x, _ => nomatch x
  | n + 1, x, k => text_per (f := cT n) (g := sT n) x k
/-- what is written is read -/
theorem read_T : ∀ (n : Nat) (x : T (n + 1)), okT (n + 1) x → ∀ (top : Bool) (rest : List Nat), (∀ c ∈ rest.head?, c = 41) → rest.take 1 = endOf top →
    rdAt n top (wT (n + 1) x ++ rest) = .ok (rest, cT (n + 1) x, rowOf (cT (n + 1) x) (sT (n + 1) x))
  | 0, x, h, top, rest, hr, ht => by
    have HI := rd_item (α := T 0) (w := wT 0) (f := cT 0) (g := sT 0) (ok := okT 0) (inner := none) (fun x => nomatch x) (fun x => nomatch x) (fun x => nomatch x)
    exact rd_text (α := T 0) (ok := okT 0) (f := cT 0) (g := sT 0) (w := wT 0) (fun x => nomatch x) (rd_part HI (fun x => nomatch x)) (fun _ _ => trivial) x h top rest hr ht
  | n + 1, x, h, top, rest, hr, ht => by
    have HI := rd_item (α := T (n + 1)) (w := wT (n + 1)) (f := cT (n + 1)) (g := sT (n + 1)) (ok := okT (n + 1)) (inner := some (rdAt n false)) (fun x hx => ⟨rdAt n false, rfl, fun rest => read_T n x hx false (41 :: rest) (fun c hc => by simpa using hc.symm) rfl⟩) (fun x hx => sT_per (n + 1) x) (cT_pos (n + 1))
    exact rd_text (α := T (n + 1)) (ok := okT (n + 1)) (f := cT (n + 1)) (g := sT (n + 1)) (w := wT (n + 1)) (cT_pos (n + 1)) (rd_part HI (cT_pos (n + 1))) (fun _ _ => trivial) x h top rest hr ht
/-- .. at most seven levels are read by read_round -/
def up : (n : Nat) → T n → T (n + 1)
  | 0, x => nomatch x
  | n + 1, x => (show Tx (T n) from x).map fun p => (p.1.map fun i => (i.1, match i.2 with
    | .inl c => .inl c
    | .inr y => .inr (up n y)), p.2)
end Rt

set_option Elab.async false
set_option linter.all false
set_option maxRecDepth 100000
set_option maxHeartbeats 4000000
namespace Fk
open PySem PySem.Spec PyProof.Rows L2 Fg Rt
local macro_rules | `(tactic| walk_at "rd1") => `(tactic| first
  | with_reducible refine r_seq ?_
  | with_reducible refine r_asg ?_
  | with_reducible refine r_gname ?_
  | with_reducible refine r_gsub ?_
  | with_reducible refine r_ret ?_
  | with_reducible refine r_retN ?_
  | with_reducible refine r_next ?_
  | with_reducible refine r_drop ?_
  | with_reducible refine r_ifS ?_
  | with_reducible refine r_if ?_
  | with_reducible refine r_par ?_
  | with_reducible refine r_pair ?_
  | with_reducible refine r_test ?_
  | with_reducible refine r_tB ?_
  | with_reducible refine r_not ?_
  | with_reducible refine r_and ?_
  | with_reducible refine r_or ?_
  | with_reducible refine r_andV ?_
  | with_reducible refine r_orV ?_
  | with_reducible refine r_notV ?_
  | with_reducible refine r_nil ?_
  | with_reducible refine r_cons ?_
  | with_reducible refine r_call ?_
  | with_reducible refine r_callS ?_
  | with_reducible refine r_cb ?_
  | with_reducible refine r_then ?_
  | with_reducible refine r_tup ?_
  | with_reducible refine r_lst ?_
  | with_reducible refine r_sl ?_
  | with_reducible refine r_nopart ?_
  | with_reducible refine r_part ?_
  | with_reducible refine r_lcR1 ?_
  | with_reducible refine r_lcR2 ?_
  | with_reducible refine r_lcL ?_
  | with_reducible refine r_lcT ?_
  | with_reducible refine r_forR1 ?_
  | with_reducible refine r_forR2 ?_
  | with_reducible refine r_forL ?_
  | with_reducible refine r_forT ?_
  | with_reducible refine r_forE ?_
  | with_reducible refine r_strE ?_
  | ((with_reducible refine r_rng1 ?hc ?_); (case hc => omega))
  | ((with_reducible refine r_rng2 ?hc ?_); (case hc => omega))
  | ((with_reducible refine' r_refL ?hc ?_); (case hc => first | assumption | exact Evl.sq_of (by assumption)))
  | ((with_reducible refine' r_refT ?hc ?_); (case hc => first | assumption | exact Evl.st_of (by assumption)))
  | with_reducible refine r_op ?_
  | with_reducible refine r_un ?_
  | with_reducible refine r_chain ?_
  | ((with_reducible refine' r_var ?hv ?_); (case hv => exact rfl))
  | with_reducible refine r_cS ?_
  | with_reducible refine r_cs ?_
  | with_reducible refine r_c ?_
  | with_reducible refine r_yes ?_
  | with_reducible refine r_bm ?_
  | with_reducible refine r_bl ?_
  | with_reducible refine r_in ?_
  | with_reducible refine r_ty ?_
  | with_reducible refine r_I0 ?_
  | ((with_reducible refine r_I ?hc ?_); (case hc => first | assumption | (show (0 : Int) < _; decide) | exact Or.inr ⟨by decide, by decide⟩ | exact Or.inr ⟨by omega, by omega⟩ | exact Or.inl ⟨by decide, by decide⟩ | exact (show CDivW _ _ from ⟨by decide, by decide +kernel⟩) | exact (show CPowW _ _ from ⟨by decide, by decide +kernel⟩) | (show (0 : Int) < _; omega)))
  | with_reducible refine r_U ?_
  | with_reducible refine r_eqI ?_
  | with_reducible refine r_neI ?_
  | with_reducible refine r_eqS ?_
  | with_reducible refine r_neS ?_
  | with_reducible refine r_eqB ?_
  | with_reducible refine r_neB ?_
  | with_reducible refine r_niS ?_
  | with_reducible refine r_inSS ?_
  | ((with_reducible refine r_slSS ?hc ?_); (case hc => first | exact small (by omega) | exact small (by simp; omega)))
  | ((with_reducible refine r_lenS ?hc ?_); (case hc => first | exact small (by omega) | exact small (by simp; omega)))
  | ((with_reducible refine' r_lenL ?hc ?_); (case hc => first | assumption | exact Evl.sq_of (by assumption)))
  | ((with_reducible refine' r_lenT ?hc ?_); (case hc => first | assumption | exact Evl.st_of (by assumption)))
  | ((with_reducible refine' r_ixL ?h1 ?h2 ?h3 ?_); (case h1 => first | assumption | exact Evl.sq_of (by assumption) | exact Evl.sq_of upd_same); (case h2 => first | decide | omega); (case h3 => first | exact rfl | assumption))
  | ((with_reducible refine' r_ixT ?h1 ?h2 ?h3 ?_); (case h1 => first | assumption | exact Evl.st_of (by assumption)); (case h2 => first | decide | omega); (case h3 => first | exact rfl | assumption))
  | with_reducible refine r_T ?_
  | with_reducible refine r_notNn ?_
  | with_reducible refine r_notN_int ?_
  | with_reducible refine r_notN_str ?_
  | with_reducible refine r_notN_ref ?_
  | with_reducible refine r_isNn ?_
  | with_reducible refine r_isN_int ?_
  | with_reducible refine r_isN_str ?_
  | with_reducible refine r_isN_ref ?_
  | ((with_reducible refine' r_isi ?ht ?hk ?_); (case ht => first | exact .base (.int _) | exact .base (.bl _) | exact .base (.str _) | exact .base .non | exact .base (.lst (by assumption)) | exact .base (.tup (by assumption))); (case hk => first | exact kb_int_int | exact kb_int_bool | exact kb_int_str | exact kb_int_list | exact kb_int_tuple | exact kb_bool_int | exact kb_bool_bool | exact kb_bool_str | exact kb_bool_list | exact kb_bool_tuple | exact kb_str_int | exact kb_str_bool | exact kb_str_str | exact kb_str_list | exact kb_str_tuple | exact kb_NoneType_int | exact kb_NoneType_bool | exact kb_NoneType_str | exact kb_NoneType_list | exact kb_NoneType_tuple | exact kb_list_int | exact kb_list_bool | exact kb_list_str | exact kb_list_list | exact kb_list_tuple | exact kb_tuple_int | exact kb_tuple_bool | exact kb_tuple_str | exact kb_tuple_list | exact kb_tuple_tuple))
  | with_reducible refine r_F ?_
  | with_reducible refine r_nT ?_
  | with_reducible refine r_nF ?_
  | with_reducible refine r_mko ?_
  | with_reducible refine r_xf ?_
  | ((with_reducible refine' r_sum ?hc ?_); (case hc => first | assumption | exact Evl.sq_of (by assumption)))
  | ((with_reducible refine' r_setL ?h1 ?h2 ?h3 ?_); (case h1 => first | assumption | exact upd_same); (case h2 => first | decide | omega); (case h3 => first | (show _ < _; decide) | (simp; done)))
  | with_reducible refine r_int ?_
  | with_reducible refine r_abs ?_)
local macro_rules | `(tactic| walk_at "rd") => `(tactic| repeat (walk_at "rd1"))

section
variable {P : Program} {w : World} {K : PySem.W.Frag} {mg : Str → Option Value} {base : Heap}
/-! ### written things in the heap -/
def ItAt {α : Type} (A : Hp → V → α → Prop) (H : Hp) (v : V) (i : It α) : Prop := ∃ a, v = .ref a ∧ match i.2 with
  | .inl c => H a = some (.tup [.int (i.1 : Int), .str (S [c])])
  | .inr x => ∃ y, H a = some (.tup [.int (i.1 : Int), y]) ∧ A H y x
def All2 {α : Type} (R : V → α → Prop) (vs : List V) (xs : List α) : Prop := vs.length = xs.length ∧ vs.length ≤ 1000 ∧ ∀ (k : Nat) (v : V) (x : α), vs[k]? = some v → xs[k]? = some x → R v x
def PtAt {α : Type} (A : Hp → V → α → Prop) (H : Hp) (v : V) (p : Pt α) : Prop := ∃ (a b : Addr) (vs : List V), v = .ref a ∧ H a = some (.tup [.ref b, .int (p.2 : Int)]) ∧ H b = some (.lst vs) ∧ All2 (ItAt A H) vs p.1
def TxAt {α : Type} (A : Hp → V → α → Prop) (H : Hp) (v : V) (ps : Tx α) : Prop := ∃ (b : Addr) (vs : List V), v = .ref b ∧ H b = some (.lst vs) ∧ All2 (PtAt A H) vs ps
def TAt : (n : Nat) → Hp → V → T n → Prop
  | 0, _, _, x => nomatch x
  | n + 1, H, v, x => TxAt (TAt n) H v x
theorem ItAt.ex {α : Type} {A : Hp → V → α → Prop} (hA : ∀ H H' v x, Ex H H' → A H v x → A H' v x) {H H' : Hp} (e : Ex H H') {v : V} {i : It α} (h : ItAt A H v i) : ItAt A H' v i := by
  obtain ⟨t, b⟩ := i
  obtain ⟨a, h1, h2⟩ := h
  cases b with
  | inl c => exact ⟨a, h1, e _ _ h2⟩
  | inr x =>
    obtain ⟨y, h3, h4⟩ := h2
    exact ⟨a, h1, y, e _ _ h3, hA _ _ _ _ e h4⟩
theorem PtAt.ex {α : Type} {A : Hp → V → α → Prop} (hA : ∀ H H' v x, Ex H H' → A H v x → A H' v x) {H H' : Hp} (e : Ex H H') {v : V} {p : Pt α} (h : PtAt A H v p) : PtAt A H' v p := by
  obtain ⟨a, b, vs, h1, h2, h3, h4, h6, h5⟩ := h
  exact ⟨a, b, vs, h1, e _ _ h2, e _ _ h3, h4, h6, fun k v x hv hx => (h5 k v x hv hx).ex hA e⟩
theorem TxAt.ex {α : Type} {A : Hp → V → α → Prop} (hA : ∀ H H' v x, Ex H H' → A H v x → A H' v x) {H H' : Hp} (e : Ex H H') {v : V} {p : Tx α} (h : TxAt A H v p) : TxAt A H' v p := by
  obtain ⟨b, vs, h1, h3, h4, h6, h5⟩ := h
  exact ⟨b, vs, h1, e _ _ h3, h4, h6, fun k v x hv hx => (h5 k v x hv hx).ex hA e⟩
theorem TAt.ex : ∀ (n : Nat) (H H' : Hp) (v : V) (x : T n), Ex H H' → TAt n H v x → TAt n H' v x
  | 0, _, _, _, x, _, _ => nomatch x
  | n + 1, H, H', v, x, e, h => TxAt.ex (TAt.ex n) e h
def spCommon : Sp := fun vs H Q _ => ∃ a b : Nat, vs = [.int (a : Int), .int (b : Int)] ∧ 1 ≤ a ∧ 1 ≤ b ∧ a < 2 ^ 8500 ∧ b < 2 ^ 8500 ∧ Q (.int ((Nat.lcm a b : Nat) : Int)) H
abbrev s_l_common : Stmt := topS 31
abbrev N_l_common : List Str := ["_law_one", "_law_two", "_law_first", "_law_second", "_law_third"]
theorem sc_l_common : FnScope ["_law_one", "_law_two", "_law_first", "_law_second", "_law_third"] ["_law_one", "_law_two"] (defScope s_l_common) := ⟨rfl, rfl, rfl, by decide +kernel, rfl, by decide +kernel, by decide +kernel⟩
theorem can_l_common (T : Bi mg) (F : Defd K mg "_law_common" s_l_common ["_law_one", "_law_two"]) : Can P w K mg base L2.CX0 1 "_law_common" ["_law_one", "_law_two"] spCommon := by
  refine can0 F sc_l_common (fun vs H Q E h => ?_) (fun f cdv A outer s H vs Q E hr h => ⟨_, (pss_cons (ps_set (i := 2) sc_l_common.nd rfl (by first | exact Or.inl rfl | exact Or.inr rfl) (pv 0))
  (pss_cons (ps_set (i := 3) sc_l_common.nd rfl (by first | exact Or.inl rfl | exact Or.inr rfl) (pv 1))
  (pss_cons (ps_while PassesOwn.never (pt_cmpR op_gt (pv 3) pe_int (nomark _)) (pss_cons (ps_set (i := 4) sc_l_common.nd rfl (by first | exact Or.inl rfl | exact Or.inr rfl) (pe_op op_mod (pe_callTy call_intI (by rfl) T.b_int boot_int (pa_cons (pv 2) pa_nil)) (pv 3)))
  (pss_cons (ps_set (i := 2) sc_l_common.nd rfl (by first | exact Or.inl rfl | exact Or.inr rfl) (pv 3))
  (pss_one (ps_set (i := 3) sc_l_common.nd rfl (by first | exact Or.inl rfl | exact Or.inr rfl) (pv 4))))))
  (pss_one (ps_ret (pe_op op_mulW (pe_op op_fdivW (pv 0) (pv 2)) (pv 1))))))), ?_⟩)
  · obtain ⟨_, _, rfl, _⟩ := h
    rfl
  · obtain ⟨a, b, rfl, ha, hb, la, lb, q⟩ := h
    walk_at "rd"
    refine ⟨fun m σ' H' => ∃ (x y : Nat) (o : Option V), σ' = [some (.int (a : Int)), some (.int (b : Int)), some (.int (x : Int)), some (.int (y : Int)), o] ∧ H' = H ∧ m = y ∧ Nat.gcd x y = Nat.gcd a b ∧ 1 ≤ x, ⟨b, a, b, _, rfl, rfl, rfl, rfl, ha⟩, fun m σ' H' hW => ?_⟩
    obtain ⟨x, y, o, rfl, rfl, rfl, hg, hx⟩ := hW
    walk_at "rd"
    refine r_ite (fun h => ?_) (fun h => ?_)
    · have y0 : (0 : Int) < (m : Int) := by omega
      refine ⟨fun σ2 H2 => ∃ m', m' < m ∧ ∃ (x y : Nat) (o : Option V), σ2 = [some (.int (a : Int)), some (.int (b : Int)), some (.int (x : Int)), some (.int (y : Int)), o] ∧ H2 = H' ∧ m' = y ∧ Nat.gcd x y = Nat.gcd a b ∧ 1 ≤ x, fun σ2 H2 z => z, ?_⟩
      walk_at "rd"
      refine ⟨x % m, Nat.mod_lt _ (by omega), m, x % m, some (.int ((x : Int) % (m : Int))), ?_, rfl, rfl, ?_, by omega⟩
      · rw [Int.natCast_emod]
        rfl
      · rw [← hg, Nat.gcd_comm m, ← Nat.gcd_rec, Nat.gcd_comm]
    · have y0 : m = 0 := by omega
      subst y0
      rw [Nat.gcd_zero_right] at hg
      subst hg
      have g1 : 1 ≤ Nat.gcd a b := hx
      have ga : Nat.gcd a b ≤ a := Nat.le_of_dvd ha (Nat.gcd_dvd_left a b)
      have dv : CDivW (a : Int) ((Nat.gcd a b : Nat) : Int) := wide_div (b := 8500) (by omega) (by rw [Int.natAbs_natCast]; exact Nat.lt_of_le_of_lt ga la) (by decide) (by decide)
      have ml : CMulW ((a : Int) / ((Nat.gcd a b : Nat) : Int)) (b : Int) := by
        rw [← Int.natCast_ediv]
        exact wide_mul (a := 8500) (b := 8500) (by rw [Int.natAbs_natCast]; exact Nat.lt_of_le_of_lt (Nat.div_le_self _ _) la) (by rw [Int.natAbs_natCast]; exact lb) (by decide) (by decide) (by decide)
      walk_at "rd"
      rw [← Int.natCast_ediv, ← Int.natCast_mul, Nat.div_mul_right_comm (Nat.gcd_dvd_left a b)]
      exact q
end
end Fk

set_option Elab.async false
set_option linter.all false
set_option maxRecDepth 100000
set_option maxHeartbeats 4000000
namespace Fk
open PySem PySem.Spec PyProof.Rows L2 Fg Rt
local macro_rules | `(tactic| walk_at "rd1") => `(tactic| first
  | with_reducible refine r_seq ?_
  | with_reducible refine r_asg ?_
  | with_reducible refine r_gname ?_
  | with_reducible refine r_gsub ?_
  | with_reducible refine r_ret ?_
  | with_reducible refine r_retN ?_
  | with_reducible refine r_next ?_
  | with_reducible refine r_drop ?_
  | with_reducible refine r_ifS ?_
  | with_reducible refine r_if ?_
  | with_reducible refine r_par ?_
  | with_reducible refine r_pair ?_
  | with_reducible refine r_test ?_
  | with_reducible refine r_tB ?_
  | with_reducible refine r_not ?_
  | with_reducible refine r_and ?_
  | with_reducible refine r_or ?_
  | with_reducible refine r_andV ?_
  | with_reducible refine r_orV ?_
  | with_reducible refine r_notV ?_
  | with_reducible refine r_nil ?_
  | with_reducible refine r_cons ?_
  | with_reducible refine r_call ?_
  | with_reducible refine r_callS ?_
  | with_reducible refine r_cb ?_
  | with_reducible refine r_then ?_
  | with_reducible refine r_tup ?_
  | with_reducible refine r_lst ?_
  | with_reducible refine r_sl ?_
  | with_reducible refine r_nopart ?_
  | with_reducible refine r_part ?_
  | with_reducible refine r_lcR1 ?_
  | with_reducible refine r_lcR2 ?_
  | with_reducible refine r_lcL ?_
  | with_reducible refine r_lcT ?_
  | with_reducible refine r_forR1 ?_
  | with_reducible refine r_forR2 ?_
  | with_reducible refine r_forL ?_
  | with_reducible refine r_forT ?_
  | with_reducible refine r_forE ?_
  | with_reducible refine r_strE ?_
  | ((with_reducible refine r_rng1 ?hc ?_); (case hc => omega))
  | ((with_reducible refine r_rng2 ?hc ?_); (case hc => omega))
  | ((with_reducible refine' r_refL ?hc ?_); (case hc => first | assumption | exact Evl.sq_of (by assumption)))
  | ((with_reducible refine' r_refT ?hc ?_); (case hc => first | assumption | exact Evl.st_of (by assumption)))
  | with_reducible refine r_op ?_
  | with_reducible refine r_un ?_
  | with_reducible refine r_chain ?_
  | ((with_reducible refine' r_var ?hv ?_); (case hv => exact rfl))
  | with_reducible refine r_cS ?_
  | with_reducible refine r_cs ?_
  | with_reducible refine r_c ?_
  | with_reducible refine r_yes ?_
  | with_reducible refine r_bm ?_
  | with_reducible refine r_bl ?_
  | with_reducible refine r_in ?_
  | with_reducible refine r_ty ?_
  | with_reducible refine r_I0 ?_
  | ((with_reducible refine r_I ?hc ?_); (case hc => first | assumption | (show (0 : Int) < _; decide) | exact Or.inr ⟨by decide, by decide⟩ | exact Or.inr ⟨by omega, by omega⟩ | exact Or.inl ⟨by decide, by decide⟩ | exact (show CDivW _ _ from ⟨by decide, by decide +kernel⟩) | exact (show CPowW _ _ from ⟨by decide, by decide +kernel⟩) | (show (0 : Int) < _; omega)))
  | with_reducible refine r_U ?_
  | with_reducible refine r_eqI ?_
  | with_reducible refine r_neI ?_
  | with_reducible refine r_eqS ?_
  | with_reducible refine r_neS ?_
  | with_reducible refine r_eqB ?_
  | with_reducible refine r_neB ?_
  | with_reducible refine r_niS ?_
  | with_reducible refine r_inSS ?_
  | ((with_reducible refine r_slSS ?hc ?_); (case hc => first | exact small (by omega) | exact small (by simp; omega)))
  | ((with_reducible refine r_lenS ?hc ?_); (case hc => first | exact small (by omega) | exact small (by simp; omega)))
  | ((with_reducible refine' r_lenL ?hc ?_); (case hc => first | assumption | exact Evl.sq_of (by assumption)))
  | ((with_reducible refine' r_lenT ?hc ?_); (case hc => first | assumption | exact Evl.st_of (by assumption)))
  | ((with_reducible refine' r_ixL ?h1 ?h2 ?h3 ?_); (case h1 => first | assumption | exact Evl.sq_of (by assumption) | exact Evl.sq_of upd_same); (case h2 => first | decide | omega); (case h3 => first | exact rfl | assumption))
  | ((with_reducible refine' r_ixT ?h1 ?h2 ?h3 ?_); (case h1 => first | assumption | exact Evl.st_of (by assumption)); (case h2 => first | decide | omega); (case h3 => first | exact rfl | assumption))
  | with_reducible refine r_T ?_
  | with_reducible refine r_notNn ?_
  | with_reducible refine r_notN_int ?_
  | with_reducible refine r_notN_str ?_
  | with_reducible refine r_notN_ref ?_
  | with_reducible refine r_isNn ?_
  | with_reducible refine r_isN_int ?_
  | with_reducible refine r_isN_str ?_
  | with_reducible refine r_isN_ref ?_
  | ((with_reducible refine' r_isi ?ht ?hk ?_); (case ht => first | exact .base (.int _) | exact .base (.bl _) | exact .base (.str _) | exact .base .non | exact .base (.lst (by assumption)) | exact .base (.tup (by assumption))); (case hk => first | exact kb_int_int | exact kb_int_bool | exact kb_int_str | exact kb_int_list | exact kb_int_tuple | exact kb_bool_int | exact kb_bool_bool | exact kb_bool_str | exact kb_bool_list | exact kb_bool_tuple | exact kb_str_int | exact kb_str_bool | exact kb_str_str | exact kb_str_list | exact kb_str_tuple | exact kb_NoneType_int | exact kb_NoneType_bool | exact kb_NoneType_str | exact kb_NoneType_list | exact kb_NoneType_tuple | exact kb_list_int | exact kb_list_bool | exact kb_list_str | exact kb_list_list | exact kb_list_tuple | exact kb_tuple_int | exact kb_tuple_bool | exact kb_tuple_str | exact kb_tuple_list | exact kb_tuple_tuple))
  | with_reducible refine r_F ?_
  | with_reducible refine r_nT ?_
  | with_reducible refine r_nF ?_
  | with_reducible refine r_mko ?_
  | with_reducible refine r_xf ?_
  | ((with_reducible refine' r_sum ?hc ?_); (case hc => first | assumption | exact Evl.sq_of (by assumption)))
  | ((with_reducible refine' r_setL ?h1 ?h2 ?h3 ?_); (case h1 => first | assumption | exact upd_same); (case h2 => first | decide | omega); (case h3 => first | (show _ < _; decide) | (simp; done)))
  | with_reducible refine r_int ?_
  | with_reducible refine r_abs ?_)
local macro_rules | `(tactic| walk_at "rd") => `(tactic| repeat (walk_at "rd1"))

section
variable {P : Program} {w : World} {K : PySem.W.Frag} {mg : Str → Option Value} {base : Heap}
def spCount (n : Nat) : Sp := fun vs H Q _ => ∃ (v : V) (x : T n), vs = [v] ∧ TAt n H v x ∧ okT n x ∧ cT n x < 2 ^ 8500 ∧ ∀ H', Ex H H' → Q (.int (cT n x : Int)) H'
def spItemC (n : Nat) : Sp := fun vs H Q _ => ∃ (v : V) (i : It (T n)), vs = [v] ∧ ItAt (TAt n) H v i ∧ okItem (okT n) i ∧ cItem (cT n) i < 2 ^ 8500 ∧ ∀ H', Ex H H' → Q (.int (cItem (cT n) i : Int)) H'
def spPartC (n : Nat) : Sp := fun vs H Q _ => ∃ (v : V) (p : Pt (T n)), vs = [v] ∧ PtAt (TAt n) H v p ∧ okPart (okT n) (cT n) p ∧ cPart (cT n) p < 2 ^ 8500 ∧ ∀ H', Ex H H' → Q (.int (cPart (cT n) p : Int)) H'
theorem mem_le {α : Type} {f : α → Nat} : ∀ {l : List (It α)} {i : It α}, i ∈ l → cItem f i ≤ cItems f l
  | [], _, h => nomatch h
  | j :: l, i, h => by
    have e : cItems f (j :: l) = cItem f j + cItems f l := by unfold cItems; rw [List.map_cons, List.sum_cons]
    rw [e]
    rcases List.mem_cons.mp h with rfl | h
    · omega
    · have := mem_le (f := f) h
      omega
theorem sum_cast {α : Type} {f : α → Nat} : ∀ l : List (It α), (l.map fun i => ((cItem f i : Nat) : Int)).sum = ((cItems f l : Nat) : Int)
  | [] => rfl
  | j :: l => by
    have e : cItems f (j :: l) = cItem f j + cItems f l := by unfold cItems; rw [List.map_cons, List.sum_cons]
    rw [e, List.map_cons, List.sum_cons, sum_cast l, Int.natCast_add]
theorem take_snoc {α : Type} {l : List α} {i : Nat} {y : α} (h : l[i]? = some y) : l.take (i + 1) = l.take i ++ [y] := by
  rw [List.take_add_one, h]
  rfl
theorem max1 (t : Nat) : (if (t : Int) > 1 then (t : Int) else 1) = ((max 1 t : Nat) : Int) := by
  split <;> omega
abbrev s_l_item_count : Stmt := topS 32
abbrev N_l_item_count : List Str := ["_law_item", "_law_times"]
theorem sc_l_item_count : FnScope ["_law_item", "_law_times"] ["_law_item"] (defScope s_l_item_count) := ⟨rfl, rfl, rfl, by decide +kernel, rfl, by decide +kernel, by decide +kernel⟩
theorem can_l_item_count (T : Bi mg) (F : Defd K mg "_law_item_count" s_l_item_count ["_law_item"]) {n k : Nat} (C_l_count : Can P w K mg base L2.CX0 k "_law_count" ["_law_parts"] (spCount n)) : Can P w K mg base L2.CX0 (k + 1) "_law_item_count" ["_law_item"] (spItemC n) := by
  refine can0 F sc_l_item_count (fun vs H Q E h => ?_) (fun f cdv A outer s H vs Q E hr h => ⟨_, (pss_cons (ps_set (i := 1) sc_l_item_count.nd rfl (by first | exact Or.inl rfl | exact Or.inr rfl) (pe_callB (call_max2 rfl) (by rfl) T.b_max boot_max (pa_cons pe_int (pa_cons (pe_ix ix_tup (pv 0) pe_int (fun _ _ => rfl)) pa_nil))))
  (pss_cons (ps_if (pt_val (pe_callB call_isi (by rfl) T.b_isinstance boot_isinstance (pa_cons (pe_ix ix_tup (pv 0) pe_int (fun _ _ => rfl)) (pa_cons (pe_bltn (v := .ty "str") (by rfl) T.b_str boot_str rfl) pa_nil)))) (pss_one (ps_ret (pv 1))) pss_nil)
  (pss_one (ps_ret (pe_op op_mulW (pv 1) (pe_can C_l_count hr (by omega) rfl (pa_cons (pe_ix ix_tup (pv 0) pe_int (fun _ _ => rfl)) pa_nil))))))), ?_⟩)
  · obtain ⟨_, _, rfl, _⟩ := h
    rfl
  · obtain ⟨v, i, rfl, hv, hok, hlt, q⟩ := h
    obtain ⟨t, b⟩ := i
    obtain ⟨a, rfl, hb⟩ := hv
    cases b with
    | inl c =>
      have hb' : H a = some (.tup [.int (t : Int), .str (S [c])]) := hb
      walk_at "rd"
      refine ⟨_, _, rfl, ?_⟩
      walk_at "rd"
      rw [max1]
      have e : cItem (cT n) (t, .inl c) = max 1 t := Nat.mul_one _
      rw [e] at q
      exact q H (Evl.Ex.refl _)
    | inr x =>
      obtain ⟨y, hb1, hx⟩ := hb
      have hb' : H a = some (.tup [.int (t : Int), y]) := hb1
      cases n with
      | zero => exact nomatch x
      | succ m =>
        obtain ⟨p, vs, rfl, hp, hall⟩ := id hx
        have ox : okT (m + 1) x := hok.2.2
        have e : cItem (cT (m + 1)) (t, .inr x) = max 1 t * cT (m + 1) x := rfl
        have lx : cT (m + 1) x < 2 ^ 8500 := Nat.lt_of_le_of_lt (by rw [e]; exact Nat.le_mul_of_pos_left _ (by omega)) hlt
        have lt24 : t ≤ 24 := hok.2.1
        walk_at "rd"
        refine ⟨_, _, rfl, ?_⟩
        walk_at "rd"
        refine ⟨_, x, rfl, hx, ox, lx, fun H1 ex => ?_⟩
        have ml : CMulW (if (t : Int) > 1 then (t : Int) else 1) (cT (m + 1) x : Int) := by
          rw [max1]
          exact wide_mul (a := 10) (b := 8500) (by rw [Int.natAbs_natCast]; omega) (by rw [Int.natAbs_natCast]; exact lx) (by decide) (by decide) (by decide)
        walk_at "rd"
        rw [max1, ← Int.natCast_mul, ← e]
        exact q H1 ex
abbrev s_l_part_count : Stmt := topS 33
abbrev N_l_part_count : List Str := ["_law_part", "_law_item"]
theorem sc_l_part_count : FnScope ["_law_part", "_law_item"] ["_law_part"] (defScope s_l_part_count) := ⟨rfl, rfl, rfl, by decide +kernel, rfl, by decide +kernel, by decide +kernel⟩
theorem can_l_part_count (T : Bi mg) (F : Defd K mg "_law_part_count" s_l_part_count ["_law_part"]) {n k : Nat} (C_l_item_count : Can P w K mg base L2.CX0 (k + 1) "_law_item_count" ["_law_item"] (spItemC n)) : Can P w K mg base L2.CX0 (k + 2) "_law_part_count" ["_law_part"] (spPartC n) := by
  refine can0 F sc_l_part_count (fun vs H Q E h => ?_) (fun f cdv A outer s H vs Q E hr h => ⟨_, (pss_cons (ps_if (pt_cmpR op_gt (pe_ix ix_tup (pv 0) pe_int (fun _ _ => rfl)) pe_int (nomark _)) (pss_one (ps_ret (pe_ix ix_tup (pv 0) pe_int (fun _ _ => rfl)))) pss_nil)
  (pss_one (ps_ret (pe_callB (cr_sum rfl) (by rfl) T.b_sum boot_sum (pa_cons (pe_lc (own := [("_law_item", 1)]) (g := gName 1) (tt := tYes) rfl sc_l_part_count.nd (pi_list (pe_ix ix_tup (pv 0) pe_int (fun _ _ => rfl))) (blkOk_by (N := N_l_part_count) (sc := defScope s_l_part_count) (by decide +kernel)) (fun _ _ _ _ _ => pg_name (i := 1) sc_l_part_count.nd rfl (Or.inl rfl)) (fun _ _ _ _ _ => pts_nil) (fun _ _ _ _ _ => (pe_can C_l_item_count hr (by omega) rfl (pa_cons (pv 1) pa_nil)))) pa_nil))))), ?_⟩)
  · obtain ⟨_, _, rfl, _⟩ := h
    rfl
  · obtain ⟨v, p, rfl, hv, hok, hlt, q⟩ := h
    obtain ⟨l, fill⟩ := p
    obtain ⟨a, b, vs, rfl, ha, hb, hlen, hlen2, hall⟩ := hv
    have ha' : H a = some (.tup [.ref b, .int (fill : Int)]) := ha
    have ho : ∀ i ∈ l, okItem (okT n) i := hok.2.1
    walk_at "rd"
    refine r_ite (fun h => ?_) (fun h => ?_)
    · walk_at "rd"
      have e : cPart (cT n) (l, fill) = fill := by
        show (if 0 < fill then fill else _) = fill
        rw [if_pos (by omega)]
      rw [e] at q
      exact q H (Evl.Ex.refl _)
    · have f0 : fill = 0 := by omega
      subst f0
      have e : cPart (cT n) (l, 0) = cItems (cT n) l := rfl
      rw [e] at q hlt
      walk_at "rd"
      have hlen' : vs.length = l.length := hlen
      refine lcL (xs := vs) (fun D i acc H2 => Ex H H2 ∧ acc = ((l.take i).map fun i => ((cItem (cT n) i : Nat) : Int)).map V.int) (fun _ => rfl) (fun D hD => ⟨Evl.Ex.new hD, rfl⟩) (fun D i H2 acc hD hJ => Evl.sq_of (hJ.1 _ _ hb))
        (fun D i x H2 acc hD hx e2 hl2 hJ => ?_) (fun D H2 acc hD e2 hJ => ?_)
      · obtain ⟨ex, rfl⟩ := hJ
        have hi := lt_of_get hx
        have hy : l[i]? = some l[i] := List.getElem?_eq_getElem (by omega)
        have hm : l[i] ∈ l := List.getElem_mem _
        have hit := hall i x l[i] hx hy
        walk_at "rd"
        refine ⟨x, l[i], rfl, hit.ex (TAt.ex n) ex, ho _ hm, Nat.lt_of_le_of_lt (mem_le hm) hlt, fun H3 ex3 => ?_⟩
        refine lc_end (by omega) hl2 (ex3 _ _ e2) ⟨(ex.trans ex3).mut hD, ?_⟩
        rw [take_snoc hy, List.map_append, List.map_append]
        rfl
      · obtain ⟨ex, rfl⟩ := hJ
        rw [List.take_of_length_le (by omega)] at e2
        walk_at "rd"
        rw [sum_cast]
        exact q H2 ex
theorem take_dvd {α : Type} {f : α → Nat} (ps : Tx α) (i : Nat) : cText f (ps.take i) ∣ cText f ps := by
  have h := (foldl_dvd (f := f) (ps.drop i) (cText f (ps.take i))).1
  have e : cText f ps = (ps.drop i).foldl (fun a p => Nat.lcm a (cPart f p)) (cText f (ps.take i)) := by
    conv => lhs; rw [← List.take_append_drop i ps]
    unfold cText
    rw [List.foldl_append]
  rw [e]
  exact h
abbrev s_l_count : Stmt := topS 34
abbrev N_l_count : List Str := ["_law_parts", "_law_many", "_law_part"]
theorem sc_l_count : FnScope ["_law_parts", "_law_many", "_law_part"] ["_law_parts"] (defScope s_l_count) := ⟨rfl, rfl, rfl, by decide +kernel, rfl, by decide +kernel, by decide +kernel⟩
theorem can_l_count (T : Bi mg) (F : Defd K mg "_law_count" s_l_count ["_law_parts"]) {n k : Nat} (C_l_part_count : Can P w K mg base L2.CX0 (k + 2) "_law_part_count" ["_law_part"] (spPartC n)) (C_l_common : Can P w K mg base L2.CX0 1 "_law_common" ["_law_one", "_law_two"] spCommon) : Can P w K mg base L2.CX0 (k + 3) "_law_count" ["_law_parts"] (spCount (n + 1)) := by
  refine can0 F sc_l_count (fun vs H Q E h => ?_) (fun f cdv A outer s H vs Q E hr h => ⟨_, (pss_cons (ps_set (i := 1) sc_l_count.nd rfl (by first | exact Or.inl rfl | exact Or.inr rfl) pe_int)
  (pss_cons (ps_for PassesOwn.never rfl (pi_list (pv 0)) (pg_name (i := 2) sc_l_count.nd rfl (by first | exact Or.inl rfl | exact Or.inr rfl))
    (pss_one (ps_set (i := 1) sc_l_count.nd rfl (by first | exact Or.inl rfl | exact Or.inr rfl) (pe_can C_l_common hr (by omega) rfl (pa_cons (pv 1) (pa_cons (pe_can C_l_part_count hr (by omega) rfl (pa_cons (pv 2) pa_nil)) pa_nil))))))
  (pss_one (ps_ret (pv 1))))), ?_⟩)
  · obtain ⟨_, _, rfl, _⟩ := h
    rfl
  · obtain ⟨v, x, h⟩ := h
    revert x
    intro (ps : Tx (Rt.T n)) h
    obtain ⟨rfl, hv, hok, hlt, q⟩ := h
    obtain ⟨b, vs, rfl, hb, hlen, hlen2, hall⟩ := hv
    have ho : ∀ p ∈ ps, okPart (okT n) (cT n) p := hok.2
    have hlt' : cText (cT n) ps < 2 ^ 8500 := hlt
    have cp : 1 ≤ cText (cT n) ps := cText_pos (cT_pos n) ps ho
    have hlen' : vs.length = ps.length := hlen
    walk_at "rd"
    refine forL (xs := vs) (fun i σ' H' => ∃ o, σ' = [some (.ref b), some (.int ((cText (cT n) (ps.take i) : Nat) : Int)), o] ∧ Ex H H') ⟨_, rfl, Evl.Ex.refl _⟩ (fun i σ' H' hi hJ => ?_) (fun i y σ' H' hy hJ => ?_) (fun σ' H' hJ => ?_)
    · obtain ⟨o, rfl, ex⟩ := hJ
      exact Evl.sq_of (ex _ _ hb)
    · obtain ⟨o, rfl, ex⟩ := hJ
      have hi := lt_of_get hy
      have hz : ps[i]? = some ps[i] := List.getElem?_eq_getElem (by omega)
      have hm : ps[i] ∈ ps := List.getElem_mem _
      have hp := hall i y ps[i] hy hz
      have le1 : cPart (cT n) ps[i] ≤ cText (cT n) ps := Nat.le_of_dvd cp ((foldl_dvd ps 1).2 _ hm)
      have le2 : cText (cT n) (ps.take i) ≤ cText (cT n) ps := Nat.le_of_dvd cp (take_dvd ps i)
      have p1 : 1 ≤ cText (cT n) (ps.take i) := cText_pos (cT_pos n) _ fun p hp => ho p (List.mem_of_mem_take hp)
      walk_at "rd"
      refine ⟨y, ps[i], rfl, hp.ex (TAt.ex n) ex, ho _ hm, Nat.lt_of_le_of_lt le1 hlt', fun H2 ex2 => ?_⟩
      walk_at "rd"
      refine ⟨_, _, rfl, p1, cPart_pos (cT_pos n) (ho _ hm), Nat.lt_of_le_of_lt le2 hlt', Nat.lt_of_le_of_lt le1 hlt', ?_⟩
      walk_at "rd"
      rw [← cText_snoc, ← take_snoc hz]
      exact ⟨_, rfl, ex.trans ex2⟩
    · obtain ⟨o, rfl, ex⟩ := hJ
      rw [List.take_of_length_le (by omega)]
      walk_at "rd"
      exact q H' ex
theorem can_counter (T : Bi mg) (F1 : Defd K mg "_law_item_count" s_l_item_count ["_law_item"]) (F2 : Defd K mg "_law_part_count" s_l_part_count ["_law_part"]) (F3 : Defd K mg "_law_count" s_l_count ["_law_parts"]) (C_l_common : Can P w K mg base L2.CX0 1 "_law_common" ["_law_one", "_law_two"] spCommon) :
    ∀ n : Nat, Can P w K mg base L2.CX0 (1 + 3 * n) "_law_count" ["_law_parts"] (spCount n) ∧ Can P w K mg base L2.CX0 (2 + 3 * n) "_law_item_count" ["_law_item"] (spItemC n) ∧ Can P w K mg base L2.CX0 (3 + 3 * n) "_law_part_count" ["_law_part"] (spPartC n) := by
  have two : ∀ (n : Nat), Can P w K mg base L2.CX0 (1 + 3 * n) "_law_count" ["_law_parts"] (spCount n) → Can P w K mg base L2.CX0 (2 + 3 * n) "_law_item_count" ["_law_item"] (spItemC n) ∧ Can P w K mg base L2.CX0 (3 + 3 * n) "_law_part_count" ["_law_part"] (spPartC n) := by
    intro n h
    have h1 := can_l_item_count T F1 h
    rw [show 1 + 3 * n + 1 = 2 + 3 * n by omega] at h1
    refine ⟨h1, ?_⟩
    have h2 := can_l_part_count (k := 1 + 3 * n) T F2 (by rw [show 1 + 3 * n + 1 = 2 + 3 * n by omega]; exact h1)
    rw [show 1 + 3 * n + 2 = 3 + 3 * n by omega] at h2
    exact h2
  intro n
  induction n with
  | zero =>
    have h0 : Can P w K mg base L2.CX0 (1 + 3 * 0) "_law_count" ["_law_parts"] (spCount 0) :=
      can0 (k := 0) F3 sc_l_count (fun vs H Q E h => by obtain ⟨_, x, _⟩ := h; exact nomatch x) (fun f cdv A outer s H vs Q E hr h => by obtain ⟨_, x, _⟩ := h; exact nomatch x)
    exact ⟨h0, two 0 h0⟩
  | succ n ih =>
    obtain ⟨i1, i2, i3⟩ := ih
    have h := can_l_count (k := 1 + 3 * n) T F3 (by rw [show 1 + 3 * n + 2 = 3 + 3 * n by omega]; exact i3) C_l_common
    rw [show 1 + 3 * n + 3 = 1 + 3 * (n + 1) by omega] at h
    exact ⟨h, two (n + 1) h⟩
end
end Fk

set_option Elab.async false
set_option linter.all false
set_option maxRecDepth 100000
set_option maxHeartbeats 4000000
namespace Fk
open PySem PySem.Spec PyProof.Rows L2 Fg Rt
local macro_rules | `(tactic| walk_at "rd1") => `(tactic| first
  | with_reducible refine r_seq ?_
  | with_reducible refine r_asg ?_
  | with_reducible refine r_gname ?_
  | with_reducible refine r_gsub ?_
  | with_reducible refine r_ret ?_
  | with_reducible refine r_retN ?_
  | with_reducible refine r_next ?_
  | with_reducible refine r_drop ?_
  | with_reducible refine r_ifS ?_
  | with_reducible refine r_if ?_
  | with_reducible refine r_par ?_
  | with_reducible refine r_pair ?_
  | with_reducible refine r_test ?_
  | with_reducible refine r_tB ?_
  | with_reducible refine r_not ?_
  | with_reducible refine r_and ?_
  | with_reducible refine r_or ?_
  | with_reducible refine r_andV ?_
  | with_reducible refine r_orV ?_
  | with_reducible refine r_notV ?_
  | with_reducible refine r_nil ?_
  | with_reducible refine r_cons ?_
  | with_reducible refine r_call ?_
  | with_reducible refine r_callS ?_
  | with_reducible refine r_cb ?_
  | with_reducible refine r_then ?_
  | with_reducible refine r_tup ?_
  | with_reducible refine r_lst ?_
  | with_reducible refine r_sl ?_
  | with_reducible refine r_nopart ?_
  | with_reducible refine r_part ?_
  | with_reducible refine r_lcR1 ?_
  | with_reducible refine r_lcR2 ?_
  | with_reducible refine r_lcL ?_
  | with_reducible refine r_lcT ?_
  | with_reducible refine r_forR1 ?_
  | with_reducible refine r_forR2 ?_
  | with_reducible refine r_forL ?_
  | with_reducible refine r_forT ?_
  | with_reducible refine r_forE ?_
  | with_reducible refine r_strE ?_
  | ((with_reducible refine r_rng1 ?hc ?_); (case hc => omega))
  | ((with_reducible refine r_rng2 ?hc ?_); (case hc => omega))
  | ((with_reducible refine' r_refL ?hc ?_); (case hc => first | assumption | exact Evl.sq_of (by assumption)))
  | ((with_reducible refine' r_refT ?hc ?_); (case hc => first | assumption | exact Evl.st_of (by assumption)))
  | with_reducible refine r_op ?_
  | with_reducible refine r_un ?_
  | with_reducible refine r_chain ?_
  | ((with_reducible refine' r_var ?hv ?_); (case hv => exact rfl))
  | with_reducible refine r_cS ?_
  | with_reducible refine r_cs ?_
  | with_reducible refine r_c ?_
  | with_reducible refine r_yes ?_
  | with_reducible refine r_bm ?_
  | with_reducible refine r_bl ?_
  | with_reducible refine r_in ?_
  | with_reducible refine r_ty ?_
  | with_reducible refine r_I0 ?_
  | ((with_reducible refine r_I ?hc ?_); (case hc => first | assumption | (show (0 : Int) < _; decide) | exact Or.inr ⟨by decide, by decide⟩ | exact Or.inr ⟨by omega, by omega⟩ | exact Or.inl ⟨by decide, by decide⟩ | exact (show CDivW _ _ from ⟨by decide, by decide +kernel⟩) | exact (show CPowW _ _ from ⟨by decide, by decide +kernel⟩) | (show (0 : Int) < _; omega)))
  | with_reducible refine r_U ?_
  | with_reducible refine r_eqI ?_
  | with_reducible refine r_neI ?_
  | with_reducible refine r_eqS ?_
  | with_reducible refine r_neS ?_
  | with_reducible refine r_eqB ?_
  | with_reducible refine r_neB ?_
  | with_reducible refine r_niS ?_
  | with_reducible refine r_inSS ?_
  | ((with_reducible refine r_slSS ?hc ?_); (case hc => first | exact small (by omega) | exact small (by simp; omega)))
  | ((with_reducible refine r_lenS ?hc ?_); (case hc => first | exact small (by omega) | exact small (by simp; omega)))
  | ((with_reducible refine' r_lenL ?hc ?_); (case hc => first | assumption | exact Evl.sq_of (by assumption)))
  | ((with_reducible refine' r_lenT ?hc ?_); (case hc => first | assumption | exact Evl.st_of (by assumption)))
  | ((with_reducible refine' r_ixL ?h1 ?h2 ?h3 ?_); (case h1 => first | assumption | exact Evl.sq_of (by assumption) | exact Evl.sq_of upd_same); (case h2 => first | decide | omega); (case h3 => first | exact rfl | assumption))
  | ((with_reducible refine' r_ixT ?h1 ?h2 ?h3 ?_); (case h1 => first | assumption | exact Evl.st_of (by assumption)); (case h2 => first | decide | omega); (case h3 => first | exact rfl | assumption))
  | with_reducible refine r_T ?_
  | with_reducible refine r_notNn ?_
  | with_reducible refine r_notN_int ?_
  | with_reducible refine r_notN_str ?_
  | with_reducible refine r_notN_ref ?_
  | with_reducible refine r_isNn ?_
  | with_reducible refine r_isN_int ?_
  | with_reducible refine r_isN_str ?_
  | with_reducible refine r_isN_ref ?_
  | ((with_reducible refine' r_isi ?ht ?hk ?_); (case ht => first | exact .base (.int _) | exact .base (.bl _) | exact .base (.str _) | exact .base .non | exact .base (.lst (by assumption)) | exact .base (.tup (by assumption))); (case hk => first | exact kb_int_int | exact kb_int_bool | exact kb_int_str | exact kb_int_list | exact kb_int_tuple | exact kb_bool_int | exact kb_bool_bool | exact kb_bool_str | exact kb_bool_list | exact kb_bool_tuple | exact kb_str_int | exact kb_str_bool | exact kb_str_str | exact kb_str_list | exact kb_str_tuple | exact kb_NoneType_int | exact kb_NoneType_bool | exact kb_NoneType_str | exact kb_NoneType_list | exact kb_NoneType_tuple | exact kb_list_int | exact kb_list_bool | exact kb_list_str | exact kb_list_list | exact kb_list_tuple | exact kb_tuple_int | exact kb_tuple_bool | exact kb_tuple_str | exact kb_tuple_list | exact kb_tuple_tuple))
  | with_reducible refine r_F ?_
  | with_reducible refine r_nT ?_
  | with_reducible refine r_nF ?_
  | with_reducible refine r_mko ?_
  | with_reducible refine r_xf ?_
  | ((with_reducible refine' r_sum ?hc ?_); (case hc => first | assumption | exact Evl.sq_of (by assumption)))
  | ((with_reducible refine' r_setL ?h1 ?h2 ?h3 ?_); (case h1 => first | assumption | exact upd_same); (case h2 => first | decide | omega); (case h3 => first | (show _ < _; decide) | (simp; done)))
  | with_reducible refine r_int ?_
  | with_reducible refine r_abs ?_)
local macro_rules | `(tactic| walk_at "rd") => `(tactic| repeat (walk_at "rd1"))

section
variable {P : Program} {w : World} {K : PySem.W.Frag} {mg : Str → Option Value} {base : Heap}
def spSignAt (n : Nat) : Sp := fun vs H Q _ => ∃ (v : V) (x : T n) (s : Nat), vs = [v, .int (s : Int)] ∧ TAt n H v x ∧ okT n x ∧ cT n x < 2 ^ 8500 ∧ ∀ H', Ex H H' → Q (.str (S [sT n x s])) H'
def spPartS (n : Nat) : Sp := fun vs H Q _ => ∃ (v : V) (p : Pt (T n)) (s : Nat), vs = [v, .int (s : Int)] ∧ PtAt (TAt n) H v p ∧ okPart (okT n) (cT n) p ∧ cPart (cT n) p < 2 ^ 8500 ∧ ∀ H', Ex H H' → Q (.str (S [sItems (cT n) (sT n) p.1 s])) H'
theorem items_le {n : Nat} {p : Pt (T n)} (h : okPart (okT n) (cT n) p) : cItems (cT n) p.1 ≤ cPart (cT n) p := by
  unfold cPart
  split
  · rcases h.2.2 with z | z
    · omega
    · exact z.1
  · exact Nat.le_refl _
abbrev s_l_part_sign : Stmt := topS 35
abbrev N_l_part_sign : List Str := ["_law_part", "_law_spot", "_law_item", "_law_many"]
theorem sc_l_part_sign : FnScope ["_law_part", "_law_spot", "_law_item", "_law_many"] ["_law_part", "_law_spot"] (defScope s_l_part_sign) := ⟨rfl, rfl, rfl, by decide +kernel, rfl, by decide +kernel, by decide +kernel⟩
theorem can_l_part_sign (T : Bi mg) (F : Defd K mg "_law_part_sign" s_l_part_sign ["_law_part", "_law_spot"]) {n k j1 j2 : Nat} (h1 : j1 ≤ k) (h2 : j2 ≤ k) (C_l_item_count : Can P w K mg base L2.CX0 j1 "_law_item_count" ["_law_item"] (spItemC n)) (C_l_sign_at : Can P w K mg base L2.CX0 j2 "_law_sign_at" ["_law_parts", "_law_spot"] (spSignAt n)) : Can P w K mg base L2.CX0 (k + 1) "_law_part_sign" ["_law_part", "_law_spot"] (spPartS n) := by
  refine can0 F sc_l_part_sign (fun vs H Q E h => ?_) (fun f cdv A outer s H vs Q E hr h => ⟨_, (pss_cons (ps_for PassesOwn.never rfl (pi_list (pe_ix ix_tup (pv 0) pe_int (fun _ _ => rfl))) (pg_name (i := 2) sc_l_part_sign.nd rfl (by first | exact Or.inl rfl | exact Or.inr rfl))
    (pss_cons (ps_set (i := 3) sc_l_part_sign.nd rfl (by first | exact Or.inl rfl | exact Or.inr rfl) (pe_can C_l_item_count hr (by omega) rfl (pa_cons (pv 2) pa_nil)))
  (pss_cons (ps_if (pt_cmpR op_lt (pv 1) (pv 3) (nomark _)) (pss_cons (ps_if (pt_val (pe_callB call_isi (by rfl) T.b_isinstance boot_isinstance (pa_cons (pe_ix ix_tup (pv 2) pe_int (fun _ _ => rfl)) (pa_cons (pe_bltn (v := .ty "str") (by rfl) T.b_str boot_str rfl) pa_nil)))) (pss_one (ps_ret (pe_ix ix_tup (pv 2) pe_int (fun _ _ => rfl)))) pss_nil)
  (pss_one (ps_ret (pe_can C_l_sign_at hr (by omega) rfl (pa_cons (pe_ix ix_tup (pv 2) pe_int (fun _ _ => rfl)) (pa_cons (pv 1) pa_nil)))))) pss_nil)
  (pss_one (ps_set (i := 1) sc_l_part_sign.nd rfl (by first | exact Or.inl rfl | exact Or.inr rfl) (pe_op op_sub (pv 1) (pv 3)))))))
  (pss_one (ps_ret (pe_strL [46] (by decide +kernel))))), ?_⟩)
  · obtain ⟨_, _, _, rfl, _⟩ := h
    rfl
  · obtain ⟨v, p, s0, rfl, hv, hok, hlt, q⟩ := h
    have hle := items_le hok
    obtain ⟨l, fill⟩ := p
    obtain ⟨a, b, vs, rfl, ha, hb, hlen, hlen2, hall⟩ := hv
    have ha' : H a = some (.tup [.ref b, .int (fill : Int)]) := ha
    have ho : ∀ i ∈ l, okItem (okT n) i := hok.2.1
    have hlt2 : cItems (cT n) l < 2 ^ 8500 := Nat.lt_of_le_of_lt hle hlt
    have hlen' : vs.length = l.length := hlen
    have q' : ∀ H', Ex H H' → Q (.str (S [sItems (cT n) (sT n) l s0])) H' := q
    walk_at "rd"
    refine forL (xs := vs) (fun i σ' H' => ∃ (o2 o3 : Option V) (s : Nat), σ' = [some (.ref a), some (.int (s : Int)), o2, o3] ∧ Ex H H' ∧ sItems (cT n) (sT n) l s0 = sItems (cT n) (sT n) (l.drop i) s) ⟨_, _, s0, rfl, Evl.Ex.refl _, rfl⟩ (fun i σ' H' hi hJ => ?_) (fun i y σ' H' hy hJ => ?_) (fun σ' H' hJ => ?_)
    · obtain ⟨o2, o3, s, rfl, ex, _⟩ := hJ
      exact Evl.sq_of (ex _ _ hb)
    · obtain ⟨o2, o3, s, rfl, ex, hs⟩ := hJ
      have hi := lt_of_get hy
      have hil : i < l.length := by omega
      have hz : l[i]? = some l[i] := List.getElem?_eq_getElem hil
      have hm : l[i] ∈ l := List.getElem_mem _
      have hp := (hall i y l[i] hy hz).ex (TAt.ex n) ex
      have lm : cItem (cT n) l[i] < 2 ^ 8500 := Nat.lt_of_le_of_lt (mem_le hm) hlt2
      have om := ho _ hm
      rw [List.drop_eq_getElem_cons hil] at hs
      generalize l[i] = it at hs hp lm om
      have es : sItems (cT n) (sT n) (it :: l.drop (i + 1)) s = if s < cItem (cT n) it then sItem (sT n) it s else sItems (cT n) (sT n) (l.drop (i + 1)) (s - cItem (cT n) it) := rfl
      rw [es] at hs
      walk_at "rd"
      refine ⟨y, it, rfl, hp, om, lm, fun H2 ex2 => ?_⟩
      replace hp := hp.ex (TAt.ex n) ex2
      walk_at "rd"
      refine r_ite (fun h => ?_) (fun h => ?_)
      · rw [if_pos (by omega)] at hs
        rw [hs] at q'
        obtain ⟨t, c⟩ := it
        obtain ⟨ai, rfl, hb2⟩ := hp
        cases c with
        | inl c =>
          have hb3 : H2 ai = some (.tup [.int (t : Int), .str (S [c])]) := hb2
          walk_at "rd"
          exact q' H2 (ex.trans ex2)
        | inr x =>
          obtain ⟨y2, hb3, hx⟩ := hb2
          have hb4 : H2 ai = some (.tup [.int (t : Int), y2]) := hb3
          cases n with
          | zero => exact nomatch x
          | succ m =>
            obtain ⟨p2, vs2, rfl, hp2, hall2⟩ := id hx
            have e : cItem (cT (m + 1)) (t, .inr x) = max 1 t * cT (m + 1) x := rfl
            have lx : cT (m + 1) x < 2 ^ 8500 := Nat.lt_of_le_of_lt (by rw [e]; exact Nat.le_mul_of_pos_left _ (by omega)) lm
            walk_at "rd"
            refine ⟨_, x, s, rfl, hx, om.2.2, lx, fun H3 ex3 => ?_⟩
            exact q' H3 ((ex.trans ex2).trans ex3)
      · rw [if_neg (by omega)] at hs
        walk_at "rd"
        refine ⟨some y, some (.int ((cItem (cT n) it : Nat) : Int)), s - cItem (cT n) it, ?_, ex.trans ex2, hs⟩
        rw [show ((s - cItem (cT n) it : Nat) : Int) = (s : Int) - ((cItem (cT n) it : Nat) : Int) by omega]
        rfl
    · obtain ⟨o2, o3, s, rfl, ex, hs⟩ := hJ
      rw [List.drop_eq_nil_of_le (by omega)] at hs
      rw [hs] at q'
      walk_at "rd"
      exact q' H' ex
abbrev s_l_sign_at : Stmt := topS 36
abbrev N_l_sign_at : List Str := ["_law_parts", "_law_spot", "_law_part", "_law_sign_here"]
theorem sc_l_sign_at : FnScope ["_law_parts", "_law_spot", "_law_part", "_law_sign_here"] ["_law_parts", "_law_spot"] (defScope s_l_sign_at) := ⟨rfl, rfl, rfl, by decide +kernel, rfl, by decide +kernel, by decide +kernel⟩
theorem can_l_sign_at (T : Bi mg) (F : Defd K mg "_law_sign_at" s_l_sign_at ["_law_parts", "_law_spot"]) {n k j1 j2 : Nat} (h1 : j1 ≤ k) (h2 : j2 ≤ k) (C_l_part_count : Can P w K mg base L2.CX0 j1 "_law_part_count" ["_law_part"] (spPartC n)) (C_l_part_sign : Can P w K mg base L2.CX0 j2 "_law_part_sign" ["_law_part", "_law_spot"] (spPartS n)) : Can P w K mg base L2.CX0 (k + 1) "_law_sign_at" ["_law_parts", "_law_spot"] (spSignAt (n + 1)) := by
  refine can0 F sc_l_sign_at (fun vs H Q E h => ?_) (fun f cdv A outer s H vs Q E hr h => ⟨_, (pss_cons (ps_for PassesOwn.never rfl (pi_list (pv 0)) (pg_name (i := 2) sc_l_sign_at.nd rfl (by first | exact Or.inl rfl | exact Or.inr rfl))
    (pss_cons (ps_set (i := 3) sc_l_sign_at.nd rfl (by first | exact Or.inl rfl | exact Or.inr rfl) (pe_can C_l_part_sign hr (by omega) rfl (pa_cons (pv 2) (pa_cons (pe_op op_mod (pe_callTy call_intI (by rfl) T.b_int boot_int (pa_cons (pv 1) pa_nil)) (pe_can C_l_part_count hr (by omega) rfl (pa_cons (pv 2) pa_nil))) pa_nil))))
  (pss_one (ps_if (pt_cmpR op_ne (pv 3) (pe_strL [46] (by decide +kernel)) (nomark _)) (pss_one (ps_ret (pv 3))) pss_nil))))
  (pss_one (ps_ret (pe_strL [46] (by decide +kernel))))), ?_⟩)
  · obtain ⟨_, _, _, rfl, _⟩ := h
    rfl
  · obtain ⟨v, x, h⟩ := h
    revert x
    intro (ps : Tx (Rt.T n)) h
    obtain ⟨s, rfl, hv, hok, hlt, q⟩ := h
    obtain ⟨b, vs, rfl, hb, hlen, hlen2, hall⟩ := hv
    have ho : ∀ p ∈ ps, okPart (okT n) (cT n) p := hok.2
    have hlt' : cText (cT n) ps < 2 ^ 8500 := hlt
    have cp : 1 ≤ cText (cT n) ps := cText_pos (cT_pos n) ps ho
    have hlen' : vs.length = ps.length := hlen
    have q' : ∀ H', Ex H H' → Q (.str (S [sText (cT n) (sT n) ps s])) H' := q
    walk_at "rd"
    refine forL (xs := vs) (fun i σ' H' => ∃ (o2 o3 : Option V), σ' = [some (.ref b), some (.int (s : Int)), o2, o3] ∧ Ex H H' ∧ sText (cT n) (sT n) ps s = sText (cT n) (sT n) (ps.drop i) s) ⟨_, _, rfl, Evl.Ex.refl _, rfl⟩ (fun i σ' H' hi hJ => ?_) (fun i y σ' H' hy hJ => ?_) (fun σ' H' hJ => ?_)
    · obtain ⟨o2, o3, rfl, ex, _⟩ := hJ
      exact Evl.sq_of (ex _ _ hb)
    · obtain ⟨o2, o3, rfl, ex, hs⟩ := hJ
      have hi := lt_of_get hy
      have hil : i < ps.length := by omega
      have hz : ps[i]? = some ps[i] := List.getElem?_eq_getElem hil
      have hm : ps[i] ∈ ps := List.getElem_mem _
      have hp := (hall i y ps[i] hy hz).ex (TAt.ex n) ex
      have om := ho _ hm
      have lm : cPart (cT n) ps[i] < 2 ^ 8500 := Nat.lt_of_le_of_lt (Nat.le_of_dvd cp ((foldl_dvd ps 1).2 _ hm)) hlt'
      rw [List.drop_eq_getElem_cons hil] at hs
      generalize ps[i] = p at hs hp lm om
      have c1 := cPart_pos (cT_pos n) om
      have es : sText (cT n) (sT n) (p :: ps.drop (i + 1)) s = if sItems (cT n) (sT n) p.1 (s % cPart (cT n) p) ≠ 46 then sItems (cT n) (sT n) p.1 (s % cPart (cT n) p) else sText (cT n) (sT n) (ps.drop (i + 1)) s := rfl
      rw [es] at hs
      walk_at "rd"
      refine ⟨y, p, rfl, hp, om, lm, fun H2 ex2 => ?_⟩
      replace hp := hp.ex (TAt.ex n) ex2
      have c0 : (0 : Int) < ((cPart (cT n) p : Nat) : Int) := by omega
      walk_at "rd"
      refine ⟨y, p, s % cPart (cT n) p, by rw [Int.natCast_emod]; rfl, hp, om, lm, fun H3 ex3 => ?_⟩
      walk_at "rd"
      have exA := (ex.trans ex2).trans ex3
      refine r_iteN (fun h => ?_) (fun h => ?_)
      · rw [if_pos (fun z => h (by rw [z]))] at hs
        rw [hs] at q'
        walk_at "rd"
        exact q' H3 exA
      · rw [if_neg (fun z => z (by injection h))] at hs
        walk_at "rd"
        exact ⟨_, _, rfl, exA, hs⟩
    · obtain ⟨o2, o3, rfl, ex, hs⟩ := hJ
      rw [List.drop_eq_nil_of_le (by omega)] at hs
      rw [hs] at q'
      walk_at "rd"
      exact q' H' ex
theorem can_signer (T : Bi mg) (F1 : Defd K mg "_law_part_sign" s_l_part_sign ["_law_part", "_law_spot"]) (F2 : Defd K mg "_law_sign_at" s_l_sign_at ["_law_parts", "_law_spot"])
    (C1 : ∀ n, Can P w K mg base L2.CX0 (2 + 3 * n) "_law_item_count" ["_law_item"] (spItemC n)) (C2 : ∀ n, Can P w K mg base L2.CX0 (3 + 3 * n) "_law_part_count" ["_law_part"] (spPartC n)) :
    ∀ n : Nat, Can P w K mg base L2.CX0 (2 + 3 * n) "_law_sign_at" ["_law_parts", "_law_spot"] (spSignAt n) := by
  intro n
  induction n with
  | zero => exact can0 (k := 1) F2 sc_l_sign_at (fun vs H Q E h => by obtain ⟨_, x, _⟩ := h; exact nomatch x) (fun f cdv A outer s H vs Q E hr h => by obtain ⟨_, x, _⟩ := h; exact nomatch x)
  | succ n ih =>
    have h1 := can_l_part_sign (k := 2 + 3 * n) T F1 (Nat.le_refl _) (Nat.le_refl _) (C1 n) ih
    have h2 := can_l_sign_at (k := 4 + 3 * n) T F2 (by omega) (by omega) (C2 n) h1
    rw [show 4 + 3 * n + 1 = 2 + 3 * (n + 1) by omega] at h2
    exact h2
end
end Fk

set_option Elab.async false
set_option linter.all false
set_option maxRecDepth 100000
set_option maxHeartbeats 4000000
namespace Fk
open PySem PySem.Spec PyProof.Rows L2 Fg Rt
local macro_rules | `(tactic| walk_at "rd1") => `(tactic| first
  | with_reducible refine r_seq ?_
  | with_reducible refine r_asg ?_
  | with_reducible refine r_gname ?_
  | with_reducible refine r_gsub ?_
  | with_reducible refine r_ret ?_
  | with_reducible refine r_retN ?_
  | with_reducible refine r_next ?_
  | with_reducible refine r_drop ?_
  | with_reducible refine r_ifS ?_
  | with_reducible refine r_if ?_
  | with_reducible refine r_par ?_
  | with_reducible refine r_pair ?_
  | with_reducible refine r_test ?_
  | with_reducible refine r_tB ?_
  | with_reducible refine r_not ?_
  | with_reducible refine r_and ?_
  | with_reducible refine r_or ?_
  | with_reducible refine r_andV ?_
  | with_reducible refine r_orV ?_
  | with_reducible refine r_notV ?_
  | with_reducible refine r_nil ?_
  | with_reducible refine r_cons ?_
  | with_reducible refine r_call ?_
  | with_reducible refine r_callS ?_
  | with_reducible refine r_cb ?_
  | with_reducible refine r_then ?_
  | with_reducible refine r_tup ?_
  | with_reducible refine r_lst ?_
  | with_reducible refine r_sl ?_
  | with_reducible refine r_nopart ?_
  | with_reducible refine r_part ?_
  | with_reducible refine r_lcR1 ?_
  | with_reducible refine r_lcR2 ?_
  | with_reducible refine r_lcL ?_
  | with_reducible refine r_lcT ?_
  | with_reducible refine r_forR1 ?_
  | with_reducible refine r_forR2 ?_
  | with_reducible refine r_forL ?_
  | with_reducible refine r_forT ?_
  | with_reducible refine r_forE ?_
  | with_reducible refine r_strE ?_
  | ((with_reducible refine r_rng1 ?hc ?_); (case hc => omega))
  | ((with_reducible refine r_rng2 ?hc ?_); (case hc => omega))
  | ((with_reducible refine' r_refL ?hc ?_); (case hc => first | assumption | exact Evl.sq_of (by assumption)))
  | ((with_reducible refine' r_refT ?hc ?_); (case hc => first | assumption | exact Evl.st_of (by assumption)))
  | with_reducible refine r_op ?_
  | with_reducible refine r_un ?_
  | with_reducible refine r_chain ?_
  | ((with_reducible refine' r_var ?hv ?_); (case hv => exact rfl))
  | with_reducible refine r_cS ?_
  | with_reducible refine r_cs ?_
  | with_reducible refine r_c ?_
  | with_reducible refine r_yes ?_
  | with_reducible refine r_bm ?_
  | with_reducible refine r_bl ?_
  | with_reducible refine r_in ?_
  | with_reducible refine r_ty ?_
  | with_reducible refine r_I0 ?_
  | ((with_reducible refine r_I ?hc ?_); (case hc => first | assumption | (show (0 : Int) < _; decide) | exact Or.inr ⟨by decide, by decide⟩ | exact Or.inr ⟨by omega, by omega⟩ | exact Or.inl ⟨by decide, by decide⟩ | exact (show CDivW _ _ from ⟨by decide, by decide +kernel⟩) | exact (show CPowW _ _ from ⟨by decide, by decide +kernel⟩) | (show (0 : Int) < _; omega)))
  | with_reducible refine r_U ?_
  | with_reducible refine r_eqI ?_
  | with_reducible refine r_neI ?_
  | with_reducible refine r_eqS ?_
  | with_reducible refine r_neS ?_
  | with_reducible refine r_eqB ?_
  | with_reducible refine r_neB ?_
  | with_reducible refine r_niS ?_
  | with_reducible refine r_inSS ?_
  | ((with_reducible refine r_slSS ?hc ?_); (case hc => first | exact small (by omega) | exact small (by simp; omega)))
  | ((with_reducible refine r_lenS ?hc ?_); (case hc => first | exact small (by omega) | exact small (by simp; omega)))
  | ((with_reducible refine' r_lenL ?hc ?_); (case hc => first | assumption | exact Evl.sq_of (by assumption)))
  | ((with_reducible refine' r_lenT ?hc ?_); (case hc => first | assumption | exact Evl.st_of (by assumption)))
  | ((with_reducible refine' r_ixL ?h1 ?h2 ?h3 ?_); (case h1 => first | assumption | exact Evl.sq_of (by assumption) | exact Evl.sq_of upd_same); (case h2 => first | decide | omega); (case h3 => first | exact rfl | assumption))
  | ((with_reducible refine' r_ixT ?h1 ?h2 ?h3 ?_); (case h1 => first | assumption | exact Evl.st_of (by assumption)); (case h2 => first | decide | omega); (case h3 => first | exact rfl | assumption))
  | with_reducible refine r_T ?_
  | with_reducible refine r_notNn ?_
  | with_reducible refine r_notN_int ?_
  | with_reducible refine r_notN_str ?_
  | with_reducible refine r_notN_ref ?_
  | with_reducible refine r_isNn ?_
  | with_reducible refine r_isN_int ?_
  | with_reducible refine r_isN_str ?_
  | with_reducible refine r_isN_ref ?_
  | ((with_reducible refine' r_isi ?ht ?hk ?_); (case ht => first | exact .base (.int _) | exact .base (.bl _) | exact .base (.str _) | exact .base .non | exact .base (.lst (by assumption)) | exact .base (.tup (by assumption))); (case hk => first | exact kb_int_int | exact kb_int_bool | exact kb_int_str | exact kb_int_list | exact kb_int_tuple | exact kb_bool_int | exact kb_bool_bool | exact kb_bool_str | exact kb_bool_list | exact kb_bool_tuple | exact kb_str_int | exact kb_str_bool | exact kb_str_str | exact kb_str_list | exact kb_str_tuple | exact kb_NoneType_int | exact kb_NoneType_bool | exact kb_NoneType_str | exact kb_NoneType_list | exact kb_NoneType_tuple | exact kb_list_int | exact kb_list_bool | exact kb_list_str | exact kb_list_list | exact kb_list_tuple | exact kb_tuple_int | exact kb_tuple_bool | exact kb_tuple_str | exact kb_tuple_list | exact kb_tuple_tuple))
  | with_reducible refine r_F ?_
  | with_reducible refine r_nT ?_
  | with_reducible refine r_nF ?_
  | with_reducible refine r_mko ?_
  | with_reducible refine r_xf ?_
  | ((with_reducible refine' r_sum ?hc ?_); (case hc => first | assumption | exact Evl.sq_of (by assumption)))
  | ((with_reducible refine' r_setL ?h1 ?h2 ?h3 ?_); (case h1 => first | assumption | exact upd_same); (case h2 => first | decide | omega); (case h3 => first | (show _ < _; decide) | (simp; done)))
  | with_reducible refine r_int ?_
  | with_reducible refine r_abs ?_)
local macro_rules | `(tactic| walk_at "rd") => `(tactic| repeat (walk_at "rd1"))

section
variable {P : Program} {w : World} {K : PySem.W.Frag} {mg : Str → Option Value} {base : Heap}
def spWrite (n : Nat) : Sp := fun vs H Q _ => ∃ (v : V) (x : T n), vs = [v] ∧ TAt n H v x ∧ okT n x ∧ (wT n x).length ≤ 2000 ∧ ∀ H', Ex H H' → Q (.str (S (wT n x))) H'
def spWriteI (n : Nat) : Sp := fun vs H Q _ => ∃ (v : V) (i : It (T n)), vs = [v] ∧ ItAt (TAt n) H v i ∧ okItem (okT n) i ∧ (wItem (wT n) i).length ≤ 2000 ∧ ∀ H', Ex H H' → Q (.str (S (wItem (wT n) i))) H'
def spWriteP (n : Nat) : Sp := fun vs H Q _ => ∃ (v : V) (p : Pt (T n)), vs = [v] ∧ PtAt (TAt n) H v p ∧ okPart (okT n) (cT n) p ∧ (wPart (wT n) p).length ≤ 2000 ∧ ∀ H', Ex H H' → Q (.str (S (wPart (wT n) p))) H'
theorem str_digs : ∀ t : Fin 25, (toString ((t.val : Nat) : Int) : Str) = S (digs t.val) := by decide +kernel
theorem ok24 {n : Nat} {i : It (T n)} (h : okItem (okT n) i) : i.1 ≤ 24 := by
  obtain ⟨t, b⟩ := i
  cases b with
  | inl c =>
    rcases h.2 with z | z
    · have z' : t = 0 := z
      show t ≤ 24
      omega
    · exact z.2
  | inr x => exact h.2.1
abbrev s_l_write_item : Stmt := topS 37
abbrev N_l_write_item : List Str := ["_law_item", "_law_text_here"]
theorem sc_l_write_item : FnScope ["_law_item", "_law_text_here"] ["_law_item"] (defScope s_l_write_item) := ⟨rfl, rfl, rfl, by decide +kernel, rfl, by decide +kernel, by decide +kernel⟩
theorem can_l_write_item (T : Bi mg) (F : Defd K mg "_law_write_item" s_l_write_item ["_law_item"]) {n k : Nat} (C_l_write : Can P w K mg base L2.CX0 k "_law_write" ["_law_parts"] (spWrite n)) : Can P w K mg base L2.CX0 (k + 1) "_law_write_item" ["_law_item"] (spWriteI n) := by
  refine can0 F sc_l_write_item (fun vs H Q E h => ?_) (fun f cdv A outer s H vs Q E hr h => ⟨_, (pss_cons (ps_set (i := 1) sc_l_write_item.nd rfl (by first | exact Or.inl rfl | exact Or.inr rfl) (pe_strL [] (by decide +kernel)))
  (Evl.pss_cut (ps_if (pt_cmpR op_gt (pe_ix ix_tup (pv 0) pe_int (fun _ _ => rfl)) pe_int (nomark _)) (pss_one (ps_set (i := 1) sc_l_write_item.nd rfl (by first | exact Or.inl rfl | exact Or.inr rfl) (pe_callTy call_str_int (by rfl) T.b_str boot_str (pa_cons (pe_ix ix_tup (pv 0) pe_int (fun _ _ => rfl)) pa_nil)))) pss_nil)
  (pss_cons (ps_if (pt_val (pe_callB call_isi (by rfl) T.b_isinstance boot_isinstance (pa_cons (pe_ix ix_tup (pv 0) pe_int (fun _ _ => rfl)) (pa_cons (pe_bltn (v := .ty "str") (by rfl) T.b_str boot_str rfl) pa_nil)))) (pss_one (ps_ret (pe_op op_catS (pv 1) (pe_ix ix_tup (pv 0) pe_int (fun _ _ => rfl))))) pss_nil)
  (pss_one (ps_ret (pe_op op_catS (pe_op op_catS (pe_op op_catS (pv 1) (pe_strL [40] (by decide +kernel))) (pe_can C_l_write hr (by omega) rfl (pa_cons (pe_ix ix_tup (pv 0) pe_int (fun _ _ => rfl)) pa_nil))) (pe_strL [41] (by decide +kernel)))))))), ?_⟩)
  · obtain ⟨_, _, rfl, _⟩ := h
    rfl
  · obtain ⟨v, i, rfl, hv, hok, hlt, q⟩ := h
    have h24 := ok24 hok
    obtain ⟨t, b⟩ := i
    have h24' : t ≤ 24 := h24
    obtain ⟨a, rfl, hb⟩ := hv
    have hD : (digs t).length ≤ 2 := by unfold digs; split <;> simp
    have hA : ∃ y, H a = some (.tup [.int (t : Int), y]) := by
      cases b with
      | inl c => exact ⟨_, hb⟩
      | inr x => exact ⟨_, hb.choose_spec.1⟩
    obtain ⟨y, hy⟩ := hA
    walk_at "rd"
    refine r_cut (Mid := fun σ' H' => σ' = [some (.ref a), some (.str (S (if 0 < t then digs t else [])))] ∧ H' = H) ?_ ?_
    · walk_at "rd"
      refine r_ite (fun h => ?_) (fun h => ?_)
      · walk_at "rd"
        refine ⟨_, rfl, ?_, ?_⟩
        · have := log_lt (n := t) (k := 10) (by omega) (by decide)
          rw [Int.natAbs_natCast]
          omega
        · rw [str_digs ⟨t, by omega⟩, if_pos (by omega)]
          exact ⟨rfl, rfl⟩
      · walk_at "rd"
        rw [if_neg (by omega)]
        exact ⟨rfl, rfl⟩
    · intro σ' H' hM
      obtain ⟨rfl, rfl⟩ := hM
      have hL : (if 0 < t then digs t else []).length ≤ 2 := by
        split
        · exact hD
        · exact Nat.zero_le _
      cases b with
      | inl c =>
        have hb' : H' a = some (.tup [.int (t : Int), .str (S [c])]) := hb
        clear hy
        walk_at "rd"
        refine r_catS (small (by show _ + 1 ≤ 1000000; omega)) ?_
        exact q H' (Evl.Ex.refl _)
      | inr x =>
        obtain ⟨y2, hb1, hx⟩ := hb
        have hb' : H' a = some (.tup [.int (t : Int), y2]) := hb1
        clear hy
        cases n with
        | zero => exact nomatch x
        | succ m =>
          obtain ⟨p, vs, rfl, hp, hall⟩ := id hx
          have e : wItem (wT (m + 1)) (t, .inr x) = (if 0 < t then digs t else []) ++ 40 :: (wT (m + 1) x ++ [41]) := rfl
          have lx : (wT (m + 1) x).length ≤ 2000 := by
            rw [e, List.length_append, List.length_cons, List.length_append] at hlt
            omega
          walk_at "rd"
          refine r_catS (small (by show _ + 1 ≤ 1000000; omega)) ?_
          walk_at "rd"
          refine ⟨_, x, rfl, hx, hok.2.2, lx, fun H1 ex => ?_⟩
          walk_at "rd"
          refine r_catS (small (by rw [List.length_append]; show _ + 1 + _ ≤ 1000000; omega)) ?_
          walk_at "rd"
          refine r_catS (small (by rw [List.length_append, List.length_append]; show _ + 1 + _ + 1 ≤ 1000000; omega)) ?_
          have e2 : (if 0 < t then digs t else []) ++ [40] ++ wT (m + 1) x ++ [41] = wItem (wT (m + 1)) (t, .inr x) := by
            rw [e]
            simp
          rw [e2]
          exact q H1 ex
theorem flat_len : ∀ ys : List (List Nat), (ys.map (·.length)).sum = ys.flatten.length
  | [] => rfl
  | y :: ys => by rw [List.map_cons, List.sum_cons, List.flatten_cons, List.length_append, flat_len ys]
theorem mem_len {ys : List (List Nat)} {y : List Nat} (h : y ∈ ys) : y.length ≤ ys.flatten.length := by
  induction ys with
  | nil => cases h
  | cons z ys ih =>
    rw [List.flatten_cons, List.length_append]
    rcases List.mem_cons.mp h with rfl | h
    · omega
    · have := ih h
      omega
theorem join_amp {α : Type} {w : α → List Nat} : ∀ ps : Tx α, TL.joinL [38] (ps.map (wPart w)) = wText w ps
  | [] => rfl
  | [p] => rfl
  | p :: q :: r => by
    show wPart w p ++ ([38] ++ TL.joinL [38] (wPart w q :: r.map (wPart w))) = wPart w p ++ 38 :: wText w (q :: r)
    have := join_amp (w := w) (q :: r)
    rw [List.map_cons] at this
    rw [this]
    rfl
theorem text_len {α : Type} {w : α → List Nat} : ∀ ps : Tx α, ((ps.map (wPart w)).map (·.length)).sum ≤ (wText w ps).length
  | [] => Nat.le_refl _
  | [p] => by
    show (wPart w p).length + 0 ≤ (wPart w p).length
    omega
  | p :: q :: r => by
    have := text_len (w := w) (q :: r)
    show (wPart w p).length + (((q :: r).map (wPart w)).map (·.length)).sum ≤ (wPart w p ++ 38 :: wText w (q :: r)).length
    rw [List.length_append, List.length_cons]
    omega
abbrev s_l_write_part : Stmt := topS 38
abbrev N_l_write_part : List Str := ["_law_part", "_law_text_here", "_law_item"]
theorem sc_l_write_part : FnScope ["_law_part", "_law_text_here", "_law_item"] ["_law_part"] (defScope s_l_write_part) := ⟨rfl, rfl, rfl, by decide +kernel, rfl, by decide +kernel, by decide +kernel⟩
theorem can_l_write_part (T : Bi mg) (F : Defd K mg "_law_write_part" s_l_write_part ["_law_part"]) {n k : Nat} (C_l_write_item : Can P w K mg base L2.CX0 k "_law_write_item" ["_law_item"] (spWriteI n)) : Can P w K mg base L2.CX0 (k + 1) "_law_write_part" ["_law_part"] (spWriteP n) := by
  refine can0 F sc_l_write_part (fun vs H Q E h => ?_) (fun f cdv A outer s H vs Q E hr h => ⟨_, (pss_cons (ps_set (i := 1) sc_l_write_part.nd rfl (by first | exact Or.inl rfl | exact Or.inr rfl) (pe_bm PySem.F.plainAttrs_str PySem.F.slot_str_join PySem.F.type_str_join mt_joinS (pe_strL [] (by decide +kernel)) (pa_cons (pe_lc (own := [("_law_item", 2)]) (g := gName 2) (tt := tYes) rfl sc_l_write_part.nd (pi_list (pe_ix ix_tup (pv 0) pe_int (fun _ _ => rfl))) (blkOk_by (N := N_l_write_part) (sc := defScope s_l_write_part) (by decide +kernel)) (fun _ _ _ _ _ => pg_name (i := 2) sc_l_write_part.nd rfl (Or.inl rfl)) (fun _ _ _ _ _ => pts_nil) (fun _ _ _ _ _ => (pe_can C_l_write_item hr (by omega) rfl (pa_cons (pv 2) pa_nil)))) pa_nil)))
  (pss_cons (ps_if (pt_cmpR op_gt (pe_ix ix_tup (pv 0) pe_int (fun _ _ => rfl)) pe_int (nomark _)) (pss_one (ps_ret (pe_op op_catS (pe_op op_catS (pv 1) (pe_strL [64] (by decide +kernel))) (pe_callTy call_str_int (by rfl) T.b_str boot_str (pa_cons (pe_ix ix_tup (pv 0) pe_int (fun _ _ => rfl)) pa_nil))))) pss_nil)
  (pss_one (ps_ret (pv 1))))), ?_⟩)
  · obtain ⟨_, _, rfl, _⟩ := h
    rfl
  · obtain ⟨v, p, rfl, hv, hok, hlt, q⟩ := h
    obtain ⟨l, fill⟩ := p
    obtain ⟨a, b, vs, rfl, ha, hb, hlen, hlen2, hall⟩ := hv
    have ha' : H a = some (.tup [.ref b, .int (fill : Int)]) := ha
    have ho : ∀ i ∈ l, okItem (okT n) i := hok.2.1
    have hlen' : vs.length = l.length := hlen
    have f24 : fill ≤ 24 := by
      rcases hok.2.2 with z | z
      · have z' : fill = 0 := z
        omega
      · exact z.2
    have e : wPart (wT n) (l, fill) = (l.map (wItem (wT n))).flatten ++ (if 0 < fill then 64 :: digs fill else []) := rfl
    have lf : ((l.map (wItem (wT n))).flatten).length ≤ 2000 := by
      rw [e, List.length_append] at hlt
      omega
    have q' : ∀ H', Ex H H' → Q (.str (S ((l.map (wItem (wT n))).flatten ++ (if 0 < fill then 64 :: digs fill else [])))) H' := q
    walk_at "rd"
    refine lcL (xs := vs) (fun D i acc H2 => Ex H H2 ∧ acc = ((l.take i).map (wItem (wT n))).map fun z => V.str (S z)) (fun _ => rfl) (fun D hD => ⟨Evl.Ex.new hD, rfl⟩) (fun D i H2 acc hD hJ => Evl.sq_of (hJ.1 _ _ hb))
      (fun D i x H2 acc hD hx e2 hl2 hJ => ?_) (fun D H2 acc hD e2 hJ => ?_)
    · obtain ⟨ex, rfl⟩ := hJ
      have hi := lt_of_get hx
      have hy : l[i]? = some l[i] := List.getElem?_eq_getElem (by omega)
      have hm : l[i] ∈ l := List.getElem_mem _
      have hit := hall i x l[i] hx hy
      have ll := mem_len (List.mem_map_of_mem (f := wItem (wT n)) hm)
      walk_at "rd"
      refine ⟨x, l[i], rfl, hit.ex (TAt.ex n) ex, ho _ hm, by omega, fun H3 ex3 => ?_⟩
      refine lc_end (by omega) hl2 (ex3 _ _ e2) ⟨(ex.trans ex3).mut hD, ?_⟩
      rw [take_snoc hy, List.map_append, List.map_append]
      rfl
    · obtain ⟨ex, rfl⟩ := hJ
      rw [List.take_of_length_le (by omega)] at e2
      walk_at "rd"
      refine r_join (Evl.sq_of e2) ?_ ?_
      · rw [flat_len]
        show _ + _ * 0 ≤ _
        omega
      · rw [joinL_nil]
        walk_at "rd"
        have hA2 := ex _ _ ha'
        walk_at "rd"
        refine r_ite (fun h => ?_) (fun h => ?_)
        · rw [if_pos (by omega)] at q'
          walk_at "rd"
          refine r_catS (small (by show _ + 1 ≤ 1000000; omega)) ?_
          walk_at "rd"
          refine ⟨_, rfl, ?_, ?_⟩
          · have := log_lt (n := fill) (k := 10) (by omega) (by decide)
            rw [Int.natAbs_natCast]
            omega
          · have hD : (digs fill).length ≤ 2 := by unfold digs; split <;> simp
            rw [str_digs ⟨fill, by omega⟩]
            walk_at "rd"
            refine r_catS (small (by rw [List.length_append]; show _ + 1 + (digs fill).length ≤ 1000000; omega)) ?_
            rw [List.append_assoc]
            exact q' H2 ex
        · rw [if_neg (by omega), List.append_nil] at q'
          walk_at "rd"
          exact q' H2 ex
abbrev s_l_write : Stmt := topS 39
abbrev N_l_write : List Str := ["_law_parts", "_law_part"]
theorem sc_l_write : FnScope ["_law_parts", "_law_part"] ["_law_parts"] (defScope s_l_write) := ⟨rfl, rfl, rfl, by decide +kernel, rfl, by decide +kernel, by decide +kernel⟩
theorem can_l_write (T : Bi mg) (F : Defd K mg "_law_write" s_l_write ["_law_parts"]) {n k : Nat} (C_l_write_part : Can P w K mg base L2.CX0 k "_law_write_part" ["_law_part"] (spWriteP n)) : Can P w K mg base L2.CX0 (k + 1) "_law_write" ["_law_parts"] (spWrite (n + 1)) := by
  refine can0 F sc_l_write (fun vs H Q E h => ?_) (fun f cdv A outer s H vs Q E hr h => ⟨_, (pss_one (ps_ret (pe_bm PySem.F.plainAttrs_str PySem.F.slot_str_join PySem.F.type_str_join mt_joinS (pe_strL [38] (by decide +kernel)) (pa_cons (pe_lc (own := [("_law_part", 1)]) (g := gName 1) (tt := tYes) rfl sc_l_write.nd (pi_list (pv 0)) (blkOk_by (N := N_l_write) (sc := defScope s_l_write) (by decide +kernel)) (fun _ _ _ _ _ => pg_name (i := 1) sc_l_write.nd rfl (Or.inl rfl)) (fun _ _ _ _ _ => pts_nil) (fun _ _ _ _ _ => (pe_can C_l_write_part hr (by omega) rfl (pa_cons (pv 1) pa_nil)))) pa_nil)))), ?_⟩)
  · obtain ⟨_, _, rfl, _⟩ := h
    rfl
  · obtain ⟨v, x, h⟩ := h
    revert x
    intro (ps : Tx (Rt.T n)) h
    obtain ⟨rfl, hv, hok, hlt, q⟩ := h
    obtain ⟨b, vs, rfl, hb, hlen, hlen2, hall⟩ := hv
    have ho : ∀ p ∈ ps, okPart (okT n) (cT n) p := hok.2
    have hlen' : vs.length = ps.length := hlen
    have hlt' : (wText (wT n) ps).length ≤ 2000 := hlt
    have tl := text_len (w := wT n) ps
    have q' : ∀ H', Ex H H' → Q (.str (S (wText (wT n) ps))) H' := q
    walk_at "rd"
    refine lcL (xs := vs) (fun D i acc H2 => Ex H H2 ∧ acc = ((ps.take i).map (wPart (wT n))).map fun z => V.str (S z)) (fun _ => rfl) (fun D hD => ⟨Evl.Ex.new hD, rfl⟩) (fun D i H2 acc hD hJ => Evl.sq_of (hJ.1 _ _ hb))
      (fun D i x H2 acc hD hx e2 hl2 hJ => ?_) (fun D H2 acc hD e2 hJ => ?_)
    · obtain ⟨ex, rfl⟩ := hJ
      have hi := lt_of_get hx
      have hy : ps[i]? = some ps[i] := List.getElem?_eq_getElem (by omega)
      have hm : ps[i] ∈ ps := List.getElem_mem _
      have hit := hall i x ps[i] hx hy
      have ll := mem_len (List.mem_map_of_mem (f := wPart (wT n)) hm)
      rw [← flat_len] at ll
      walk_at "rd"
      refine ⟨x, ps[i], rfl, hit.ex (TAt.ex n) ex, ho _ hm, by omega, fun H3 ex3 => ?_⟩
      refine lc_end (by omega) hl2 (ex3 _ _ e2) ⟨(ex.trans ex3).mut hD, ?_⟩
      rw [take_snoc hy, List.map_append, List.map_append]
      rfl
    · obtain ⟨ex, rfl⟩ := hJ
      rw [List.take_of_length_le (by omega)] at e2
      walk_at "rd"
      refine r_join (Evl.sq_of e2) ?_ ?_
      · rw [List.length_map]
        show _ + _ * 1 ≤ _
        omega
      · rw [join_amp]
        exact q' H2 ex
theorem can_writer (T : Bi mg) (F1 : Defd K mg "_law_write_item" s_l_write_item ["_law_item"]) (F2 : Defd K mg "_law_write_part" s_l_write_part ["_law_part"]) (F3 : Defd K mg "_law_write" s_l_write ["_law_parts"]) :
    ∀ n : Nat, Can P w K mg base L2.CX0 (1 + 3 * n) "_law_write" ["_law_parts"] (spWrite n) := by
  intro n
  induction n with
  | zero => exact can0 (k := 0) F3 sc_l_write (fun vs H Q E h => by obtain ⟨_, x, _⟩ := h; exact nomatch x) (fun f cdv A outer s H vs Q E hr h => by obtain ⟨_, x, _⟩ := h; exact nomatch x)
  | succ n ih =>
    have h := can_l_write (k := 1 + 3 * n + 1 + 1) T F3 (can_l_write_part T F2 (can_l_write_item T F1 ih))
    rw [show 1 + 3 * n + 1 + 1 + 1 = 1 + 3 * (n + 1) by omega] at h
    exact h
end
end Fk

set_option Elab.async false
set_option linter.all false
set_option maxRecDepth 100000
set_option maxHeartbeats 4000000
namespace Rt
open Fg
/-! ### a text of one level is one of the next -/
section
variable {α β : Type} {h : α → β}
def mI (h : α → β) (i : It α) : It β := (i.1, match i.2 with
  | .inl c => .inl c
  | .inr y => .inr (h y))
def mP (h : α → β) (p : Pt α) : Pt β := (p.1.map (mI h), p.2)
def mX (h : α → β) (ps : Tx α) : Tx β := ps.map (mP h)
theorem mI_w {w : α → List Nat} {w' : β → List Nat} (e : ∀ x, w' (h x) = w x) (i : It α) : wItem w' (mI h i) = wItem w i := by
  obtain ⟨t, b⟩ := i
  cases b with
  | inl c => rfl
  | inr x =>
    show (if 0 < t then digs t else []) ++ (40 :: (w' (h x) ++ [41])) = _
    rw [e]
    rfl
theorem mP_w {w : α → List Nat} {w' : β → List Nat} (e : ∀ x, w' (h x) = w x) (p : Pt α) : wPart w' (mP h p) = wPart w p := by
  unfold wPart mP
  rw [List.map_map, show (wItem w' ∘ mI h) = wItem w from funext (mI_w e)]
theorem mX_w {w : α → List Nat} {w' : β → List Nat} (e : ∀ x, w' (h x) = w x) : ∀ ps : Tx α, wText w' (mX h ps) = wText w ps
  | [] => rfl
  | [p] => mP_w e p
  | p :: q :: r => by
    show wPart w' (mP h p) ++ 38 :: wText w' (mX h (q :: r)) = _
    rw [mP_w e, mX_w e (q :: r)]
    rfl
theorem mI_c {f : α → Nat} {f' : β → Nat} (e : ∀ x, f' (h x) = f x) (i : It α) : cItem f' (mI h i) = cItem f i := by
  obtain ⟨t, b⟩ := i
  cases b with
  | inl c => rfl
  | inr x =>
    show max 1 t * f' (h x) = max 1 t * f x
    rw [e]
theorem mI_cs {f : α → Nat} {f' : β → Nat} (e : ∀ x, f' (h x) = f x) (l : List (It α)) : cItems f' (l.map (mI h)) = cItems f l := by
  unfold cItems
  rw [List.map_map, show (cItem f' ∘ mI h) = cItem f from funext (mI_c e)]
theorem mP_c {f : α → Nat} {f' : β → Nat} (e : ∀ x, f' (h x) = f x) (p : Pt α) : cPart f' (mP h p) = cPart f p := by
  unfold cPart mP
  rw [mI_cs e]
theorem mX_c {f : α → Nat} {f' : β → Nat} (e : ∀ x, f' (h x) = f x) (ps : Tx α) : cText f' (mX h ps) = cText f ps := by
  unfold cText mX
  rw [List.foldl_map]
  congr 1
  funext a p
  rw [mP_c e]
theorem mI_ss {f : α → Nat} {f' : β → Nat} {g : α → Nat → Nat} {g' : β → Nat → Nat} (e : ∀ x, f' (h x) = f x) (eg : ∀ x, g' (h x) = g x) : ∀ (l : List (It α)) (s : Nat), sItems f' g' (l.map (mI h)) s = sItems f g l s
  | [], s => rfl
  | i :: l, s => by
    show (if s < cItem f' (mI h i) then sItem g' (mI h i) s else sItems f' g' (l.map (mI h)) (s - cItem f' (mI h i))) = if s < cItem f i then sItem g i s else sItems f g l (s - cItem f i)
    rw [mI_c e, mI_ss e eg l]
    have : sItem g' (mI h i) s = sItem g i s := by
      obtain ⟨t, b⟩ := i
      cases b with
      | inl c => rfl
      | inr x =>
        show g' (h x) s = g x s
        rw [eg]
    rw [this]
theorem mX_s {f : α → Nat} {f' : β → Nat} {g : α → Nat → Nat} {g' : β → Nat → Nat} (e : ∀ x, f' (h x) = f x) (eg : ∀ x, g' (h x) = g x) : ∀ (ps : Tx α) (s : Nat), sText f' g' (mX h ps) s = sText f g ps s
  | [], s => rfl
  | p :: ps, s => by
    show (if sItems f' g' (p.1.map (mI h)) (s % cPart f' (mP h p)) ≠ 46 then sItems f' g' (p.1.map (mI h)) (s % cPart f' (mP h p)) else sText f' g' (mX h ps) s) = if sItems f g p.1 (s % cPart f p) ≠ 46 then sItems f g p.1 (s % cPart f p) else sText f g ps s
    rw [mP_c e, mI_ss e eg, mX_s e eg ps]
theorem mI_ok {ok : α → Prop} {ok' : β → Prop} (eo : ∀ x, ok x → ok' (h x)) {i : It α} (hi : okItem ok i) : okItem ok' (mI h i) := by
  obtain ⟨t, b⟩ := i
  cases b with
  | inl c => exact hi
  | inr x => exact ⟨hi.1, hi.2.1, eo x hi.2.2⟩
theorem mP_ok {ok : α → Prop} {ok' : β → Prop} {f : α → Nat} {f' : β → Nat} (eo : ∀ x, ok x → ok' (h x)) (e : ∀ x, f' (h x) = f x) {p : Pt α} (hp : okPart ok f p) : okPart ok' f' (mP h p) := by
  obtain ⟨h1, h2, h3⟩ := hp
  refine ⟨fun z => h1 (List.map_eq_nil_iff.mp z), fun i hi => ?_, ?_⟩
  · obtain ⟨j, hj, rfl⟩ := List.mem_map.mp hi
    exact mI_ok eo (h2 j hj)
  · show p.2 = 0 ∨ cItems f' (p.1.map (mI h)) ≤ p.2 ∧ p.2 ≤ 24
    rw [mI_cs e]
    exact h3
theorem mX_ok {ok : α → Prop} {ok' : β → Prop} {f : α → Nat} {f' : β → Nat} (eo : ∀ x, ok x → ok' (h x)) (e : ∀ x, f' (h x) = f x) {ps : Tx α} (hp : okText ok f ps) : okText ok' f' (mX h ps) := by
  refine ⟨fun z => hp.1 (List.map_eq_nil_iff.mp z), fun p hp2 => ?_⟩
  obtain ⟨q, hq, rfl⟩ := List.mem_map.mp hp2
  exact mP_ok eo e (hp.2 q hq)
end
def lift : (n : Nat) → T n → T (n + 1)
  | 0, x => nomatch x
  | n + 1, x => mX (lift n) x
theorem lift_w : ∀ (n : Nat) (x : T n), wT (n + 1) (lift n x) = wT n x
  | 0, x => nomatch x
  | n + 1, x => mX_w (h := lift n) (lift_w n) x
theorem lift_c : ∀ (n : Nat) (x : T n), cT (n + 1) (lift n x) = cT n x
  | 0, x => nomatch x
  | n + 1, x => mX_c (h := lift n) (lift_c n) x
theorem lift_s : ∀ (n : Nat) (x : T n), sT (n + 1) (lift n x) = sT n x
  | 0, x => nomatch x
  | n + 1, x => funext fun s => mX_s (h := lift n) (f := cT n) (f' := cT (n + 1)) (lift_c n) (lift_s n) x s
theorem lift_ok : ∀ (n : Nat) (x : T n), okT n x → okT (n + 1) (lift n x)
  | 0, x, _ => nomatch x
  | n + 1, x, hx => mX_ok (h := lift n) (ok := okT n) (ok' := okT (n + 1)) (f := cT n) (f' := cT (n + 1)) (lift_ok n) (lift_c n) hx
/-- a text of at most seven levels as one of seven -/
theorem to7 : ∀ (k n : Nat), n + k = 7 → ∀ x : T n, okT n x → ∃ y : T 7, okT 7 y ∧ wT 7 y = wT n x ∧ cT 7 y = cT n x ∧ sT 7 y = sT n x
  | 0, n, e, x, hx => by
    have : n = 7 := by omega
    subst this
    exact ⟨x, hx, rfl, rfl, rfl⟩
  | k + 1, n, e, x, hx => by
    obtain ⟨y, h1, h2, h3, h4⟩ := to7 k (n + 1) (by omega) (lift n x) (lift_ok n x hx)
    exact ⟨y, h1, by rw [h2, lift_w], by rw [h3, lift_c], by rw [h4, lift_s]⟩
/-- read_round's reader at what is written -/
theorem round_reads {n : Nat} (hn : n ≤ 7) (x : T n) (hx : okT n x) : rdAt 6 true (wT n x) = .ok ([], cT n x, rowOf (cT n x) (sT n x)) := by
  obtain ⟨y, h1, h2, h3, h4⟩ := to7 (7 - n) n (by omega) x hx
  have h := read_T 6 y h1 true [] (fun c hc => nomatch hc) rfl
  rw [List.append_nil] at h
  rw [← h2, h, h3, h4]
theorem cT_big {n : Nat} (hn : n ≤ 7) (x : T n) (hx : okT n x) (hl : (wT n x).length ≤ 1400) : cT n x < 2 ^ 8500 := by
  obtain ⟨F, _⟩ := ok_at 6 true _ _ (round_reads hn x hx)
  obtain ⟨k, k1, k2, k3, k4⟩ := F.suf
  have k4' : cT n x ≤ 2 ^ (6 * k) := k4
  exact Nat.lt_of_le_of_lt k4' (Nat.pow_lt_pow_right (by decide) (by omega))
end Rt

set_option Elab.async false
set_option linter.all false
set_option maxRecDepth 100000
set_option maxHeartbeats 4000000
namespace Fk
open PySem PySem.Spec PyProof.Rows L2 Fg Rt
local macro_rules | `(tactic| walk_at "rd1") => `(tactic| first
  | with_reducible refine r_seq ?_
  | with_reducible refine r_asg ?_
  | with_reducible refine r_gname ?_
  | with_reducible refine r_gsub ?_
  | with_reducible refine r_ret ?_
  | with_reducible refine r_retN ?_
  | with_reducible refine r_next ?_
  | with_reducible refine r_drop ?_
  | with_reducible refine r_ifS ?_
  | with_reducible refine r_if ?_
  | with_reducible refine r_par ?_
  | with_reducible refine r_pair ?_
  | with_reducible refine r_test ?_
  | with_reducible refine r_tB ?_
  | with_reducible refine r_not ?_
  | with_reducible refine r_and ?_
  | with_reducible refine r_or ?_
  | with_reducible refine r_andV ?_
  | with_reducible refine r_orV ?_
  | with_reducible refine r_notV ?_
  | with_reducible refine r_nil ?_
  | with_reducible refine r_cons ?_
  | with_reducible refine r_call ?_
  | with_reducible refine r_callS ?_
  | with_reducible refine r_cb ?_
  | with_reducible refine r_then ?_
  | with_reducible refine r_tup ?_
  | with_reducible refine r_lst ?_
  | with_reducible refine r_sl ?_
  | with_reducible refine r_nopart ?_
  | with_reducible refine r_part ?_
  | with_reducible refine r_lcR1 ?_
  | with_reducible refine r_lcR2 ?_
  | with_reducible refine r_lcL ?_
  | with_reducible refine r_lcT ?_
  | with_reducible refine r_forR1 ?_
  | with_reducible refine r_forR2 ?_
  | with_reducible refine r_forL ?_
  | with_reducible refine r_forT ?_
  | with_reducible refine r_forE ?_
  | with_reducible refine r_strE ?_
  | ((with_reducible refine r_rng1 ?hc ?_); (case hc => omega))
  | ((with_reducible refine r_rng2 ?hc ?_); (case hc => omega))
  | ((with_reducible refine' r_refL ?hc ?_); (case hc => first | assumption | exact Evl.sq_of (by assumption)))
  | ((with_reducible refine' r_refT ?hc ?_); (case hc => first | assumption | exact Evl.st_of (by assumption)))
  | with_reducible refine r_op ?_
  | with_reducible refine r_un ?_
  | with_reducible refine r_chain ?_
  | ((with_reducible refine' r_var ?hv ?_); (case hv => exact rfl))
  | with_reducible refine r_cS ?_
  | with_reducible refine r_cs ?_
  | with_reducible refine r_c ?_
  | with_reducible refine r_yes ?_
  | with_reducible refine r_bm ?_
  | with_reducible refine r_bl ?_
  | with_reducible refine r_in ?_
  | with_reducible refine r_ty ?_
  | with_reducible refine r_I0 ?_
  | ((with_reducible refine r_I ?hc ?_); (case hc => first | assumption | (show (0 : Int) < _; decide) | exact Or.inr ⟨by decide, by decide⟩ | exact Or.inr ⟨by omega, by omega⟩ | exact Or.inl ⟨by decide, by decide⟩ | exact (show CDivW _ _ from ⟨by decide, by decide +kernel⟩) | exact (show CPowW _ _ from ⟨by decide, by decide +kernel⟩) | (show (0 : Int) < _; omega)))
  | with_reducible refine r_U ?_
  | with_reducible refine r_eqI ?_
  | with_reducible refine r_neI ?_
  | with_reducible refine r_eqS ?_
  | with_reducible refine r_neS ?_
  | with_reducible refine r_eqB ?_
  | with_reducible refine r_neB ?_
  | with_reducible refine r_niS ?_
  | with_reducible refine r_inSS ?_
  | ((with_reducible refine r_slSS ?hc ?_); (case hc => first | exact small (by omega) | exact small (by simp; omega)))
  | ((with_reducible refine r_lenS ?hc ?_); (case hc => first | exact small (by omega) | exact small (by simp; omega)))
  | ((with_reducible refine' r_lenL ?hc ?_); (case hc => first | assumption | exact Evl.sq_of (by assumption)))
  | ((with_reducible refine' r_lenT ?hc ?_); (case hc => first | assumption | exact Evl.st_of (by assumption)))
  | ((with_reducible refine' r_ixL ?h1 ?h2 ?h3 ?_); (case h1 => first | assumption | exact Evl.sq_of (by assumption) | exact Evl.sq_of upd_same); (case h2 => first | decide | omega); (case h3 => first | exact rfl | assumption))
  | ((with_reducible refine' r_ixT ?h1 ?h2 ?h3 ?_); (case h1 => first | assumption | exact Evl.st_of (by assumption)); (case h2 => first | decide | omega); (case h3 => first | exact rfl | assumption))
  | with_reducible refine r_T ?_
  | with_reducible refine r_notNn ?_
  | with_reducible refine r_notN_int ?_
  | with_reducible refine r_notN_str ?_
  | with_reducible refine r_notN_ref ?_
  | with_reducible refine r_isNn ?_
  | with_reducible refine r_isN_int ?_
  | with_reducible refine r_isN_str ?_
  | with_reducible refine r_isN_ref ?_
  | ((with_reducible refine' r_isi ?ht ?hk ?_); (case ht => first | exact .base (.int _) | exact .base (.bl _) | exact .base (.str _) | exact .base .non | exact .base (.lst (by assumption)) | exact .base (.tup (by assumption))); (case hk => first | exact kb_int_int | exact kb_int_bool | exact kb_int_str | exact kb_int_list | exact kb_int_tuple | exact kb_bool_int | exact kb_bool_bool | exact kb_bool_str | exact kb_bool_list | exact kb_bool_tuple | exact kb_str_int | exact kb_str_bool | exact kb_str_str | exact kb_str_list | exact kb_str_tuple | exact kb_NoneType_int | exact kb_NoneType_bool | exact kb_NoneType_str | exact kb_NoneType_list | exact kb_NoneType_tuple | exact kb_list_int | exact kb_list_bool | exact kb_list_str | exact kb_list_list | exact kb_list_tuple | exact kb_tuple_int | exact kb_tuple_bool | exact kb_tuple_str | exact kb_tuple_list | exact kb_tuple_tuple))
  | with_reducible refine r_F ?_
  | with_reducible refine r_nT ?_
  | with_reducible refine r_nF ?_
  | with_reducible refine r_mko ?_
  | with_reducible refine r_xf ?_
  | ((with_reducible refine' r_sum ?hc ?_); (case hc => first | assumption | exact Evl.sq_of (by assumption)))
  | ((with_reducible refine' r_setL ?h1 ?h2 ?h3 ?_); (case h1 => first | assumption | exact upd_same); (case h2 => first | decide | omega); (case h3 => first | (show _ < _; decide) | (simp; done)))
  | with_reducible refine r_int ?_
  | with_reducible refine r_abs ?_)
local macro_rules | `(tactic| walk_at "rd") => `(tactic| repeat (walk_at "rd1"))

section
variable {P : Program} {w : World} {K : PySem.W.Frag} {mg : Str → Option Value} {base : Heap}
abbrev wRow : List Nat := [114, 111, 119]
abbrev wLong : List Nat := [108, 111, 110, 103]
def said (c : Nat) (r : List Nat) : List V := if c ≤ 24 then [.str (S wRow), .str (S r)] else [.str (S wLong), .int (c : Int)]
def spDue (n : Nat) : Sp := fun vs H Q _ => ∃ (v : V) (x : T n), vs = [v] ∧ TAt n H v x ∧ okT n x ∧ cT n x < 2 ^ 8500 ∧ ∀ p H', Ex H H' → H' p = some (.tup (said (cT n x) (rowOf (cT n x) (sT n x)))) → Q (.ref p) H'
abbrev s_l_due : Stmt := topS 47
abbrev N_l_due : List Str := ["_law_parts", "_law_many", "_law_spot"]
theorem sc_l_due : FnScope ["_law_parts", "_law_many", "_law_spot"] ["_law_parts"] (defScope s_l_due) := ⟨rfl, rfl, rfl, by decide +kernel, rfl, by decide +kernel, by decide +kernel⟩
theorem can_l_due (T : Bi mg) (F : Defd K mg "_law_due" s_l_due ["_law_parts"]) {n k j1 j2 : Nat} (h1 : j1 ≤ k) (h2 : j2 ≤ k) (C_l_count : Can P w K mg base L2.CX0 j1 "_law_count" ["_law_parts"] (spCount n)) (C_l_sign_at : Can P w K mg base L2.CX0 j2 "_law_sign_at" ["_law_parts", "_law_spot"] (spSignAt n)) : Can P w K mg base L2.CX0 (k + 1) "_law_due" ["_law_parts"] (spDue n) := by
  refine can0 F sc_l_due (fun vs H Q E h => ?_) (fun f cdv A outer s H vs Q E hr h => ⟨_, (pss_cons (ps_set (i := 1) sc_l_due.nd rfl (by first | exact Or.inl rfl | exact Or.inr rfl) (pe_can C_l_count hr (by omega) rfl (pa_cons (pv 0) pa_nil)))
  (pss_cons (ps_if (pt_cmpR op_gt (pv 1) pe_int (nomark _)) (pss_one (ps_ret (pe_tup (pa_cons (pe_strL [108, 111, 110, 103] (by decide +kernel)) (pa_cons (pv 1) pa_nil))))) pss_nil)
  (pss_one (ps_ret (pe_tup (pa_cons (pe_strL [114, 111, 119] (by decide +kernel)) (pa_cons (pe_bm PySem.F.plainAttrs_str PySem.F.slot_str_join PySem.F.type_str_join mt_joinS (pe_strL [] (by decide +kernel)) (pa_cons (pe_lc (own := [("_law_spot", 2)]) (g := gName 2) (tt := tYes) rfl sc_l_due.nd (pi_range1 rfl T.b_range (pa_cons (pv 1) pa_nil)) (blkOk_by (N := N_l_due) (sc := defScope s_l_due) (by decide +kernel)) (fun _ _ _ _ _ => pg_name (i := 2) sc_l_due.nd rfl (Or.inl rfl)) (fun _ _ _ _ _ => pts_nil) (fun _ _ _ _ _ => (pe_can C_l_sign_at hr (by omega) rfl (pa_cons (pv 0) (pa_cons (pv 2) pa_nil))))) pa_nil)) pa_nil))))))), ?_⟩)
  · obtain ⟨_, _, rfl, _⟩ := h
    rfl
  · obtain ⟨v, x, rfl, hv, hok, hlt, q⟩ := h
    walk_at "rd"
    refine ⟨v, x, rfl, hv, hok, hlt, fun H1 ex1 => ?_⟩
    replace hv := TAt.ex n _ _ _ _ ex1 hv
    walk_at "rd"
    refine r_ite (fun h => ?_) (fun h => ?_)
    · have e : said (cT n x) (rowOf (cT n x) (sT n x)) = [.str (S wLong), .int (cT n x : Int)] := if_neg (by omega)
      rw [e] at q
      walk_at "rd"
      refine ⟨small (by show 2 ≤ 1000000; decide), fun p hp => ?_⟩
      exact q p _ (ex1.trans (Evl.Ex.new hp)) upd_same
    · have h24 : cT n x ≤ 24 := by omega
      have e : said (cT n x) (rowOf (cT n x) (sT n x)) = [.str (S wRow), .str (S ((List.range (cT n x)).map (sT n x)))] := by
        unfold said rowOf
        rw [if_pos h24, if_pos h24]
      rw [e] at q
      have hlt2 := hlt
      walk_at "rd"
      generalize hm : cT n x = m at h24 q hlt
      refine lcR (fun D i acc H2 => Ex H1 H2 ∧ acc = ((List.range i).map (sT n x)).map fun c => V.str (S [c])) (fun _ => rfl) (fun D hD => ⟨Evl.Ex.new hD, rfl⟩)
        (fun D i H2 acc hD hi e2 hl2 hJ => ?_) (fun D H2 acc hD e2 hJ => ?_)
      · obtain ⟨ex, rfl⟩ := hJ
        walk_at "rd"
        refine ⟨v, x, i, by rw [Int.zero_add]; rfl, TAt.ex n _ _ _ _ ex hv, hok, hlt2, fun H3 ex3 => ?_⟩
        refine lc_end (by omega) hl2 (ex3 _ _ e2) ⟨(ex.trans ex3).mut hD, ?_⟩
        rw [List.range_succ, List.map_append, List.map_append]
        rfl
      · obtain ⟨ex, rfl⟩ := hJ
        have em : (m : Int).toNat = m := Int.toNat_natCast m
        rw [em] at e2
        walk_at "rd"
        refine r_joinC (Evl.sq_of e2) (by rw [List.length_map, List.length_range]; omega) ?_
        walk_at "rd"
        refine ⟨small (by show 2 ≤ 1000000; decide), fun p hp => ?_⟩
        exact q p _ ((ex1.trans ex).trans (Evl.Ex.new hp)) upd_same
def spIsIntI : Sp := fun vs H Q _ => ∃ i : Int, vs = [.int i] ∧ Q (.bl true) H
abbrev s_l_is_int : Stmt := topS 29
abbrev N_l_is_int : List Str := ["_law_thing"]
theorem sc_l_is_int : FnScope ["_law_thing"] ["_law_thing"] (defScope s_l_is_int) := ⟨rfl, rfl, rfl, by decide +kernel, rfl, by decide +kernel, by decide +kernel⟩
theorem can_l_is_int (T : Bi mg) (F : Defd K mg "_law_is_int" s_l_is_int ["_law_thing"]) : Can P w K mg base L2.CX0 1 "_law_is_int" ["_law_thing"] spIsIntI := by
  refine can0 F sc_l_is_int (fun vs H Q E h => ?_) (fun f cdv A outer s H vs Q E hr h => ⟨_, (pss_one (ps_ret (pe_and (pe_callB call_isi (by rfl) T.b_isinstance boot_isinstance (pa_cons (pv 0) (pa_cons (pe_bltn (v := .ty "int") (by rfl) T.b_int boot_int rfl) pa_nil))) (pe_one (pe_not (pe_callB call_isi (by rfl) T.b_isinstance boot_isinstance (pa_cons (pv 0) (pa_cons (pe_bltn (v := .ty "bool") (by rfl) T.b_bool boot_bool rfl) pa_nil)))))))), ?_⟩)
  · obtain ⟨_, rfl, _⟩ := h
    rfl
  · obtain ⟨i, rfl, q⟩ := h
    walk_at "rd"
    exact q
structure GlobC (mg : Str → Option Value) (x : Str) (A : Addr) : Prop where
  g : mg x = some (.ref A)
structure LongK (K : PySem.W.Frag) (L B G : Addr) : Prop where
  xm : PySem.W.exmOne K (.ref L) (.ref L) = some true
  kg : PySem.W.kitOne K (.ref L) (.ref G) = some true
  kb : PySem.W.kitOne K (.ref L) (.ref B) = some false
  kv : PySem.W.kitOne K (.ref L) (.type "ValueError") = some true
def spTold (n : Nat) : Sp := fun vs H Q _ => ∃ x : T n, vs = [.str (S (wT n x))] ∧ n ≤ 7 ∧ okT n x ∧ (wT n x).length ≤ 1400 ∧ ∀ p H', Ex H H' → H' p = some (.tup (said (cT n x) (rowOf (cT n x) (sT n x)))) → Q (.ref p) H'
theorem r_isX {K : PySem.W.Frag} {a D C dd : Addr} {fs : List (Str × V)} {b : Bool} {H : Hp} {Q : VK} (c : ExcC K D) (k : PySem.W.kitOne K (.ref D) (.ref C) = some b) (h : H dd = some (.xd fs)) (q : Q (.bl b) H) : rIsX K a (.ref D) (some dd) [.ref a, .ref C] H Q :=
  ⟨D, .ref C, _, b, dd, fs, rfl, fun u r => r, rfl, c, k, rfl, h, q⟩
theorem r_isXT {K : PySem.W.Frag} {a D dd : Addr} {n : String} {fs : List (Str × V)} {b : Bool} {H : Hp} {Q : VK} (c : ExcC K D) (k : PySem.W.kitOne K (.ref D) (.type n) = some b) (h : H dd = some (.xd fs)) (q : Q (.bl b) H) : rIsX K a (.ref D) (some dd) [.ref a, .ty n] H Q :=
  ⟨D, .ty n, _, b, dd, fs, rfl, fun u r => r, rfl, c, k, rfl, h, q⟩
abbrev s_l_told : Stmt := topS 48
abbrev N_l_told : List Str := ["_law_text_here", "e"]
theorem sc_l_told : FnScope ["_law_text_here", "e"] ["_law_text_here"] (defScope s_l_told) := ⟨rfl, rfl, rfl, by decide +kernel, rfl, by decide +kernel, by decide +kernel⟩
theorem can_l_told (T : Bi mg) (F : Defd K mg "_law_told" s_l_told ["_law_text_here"]) {n : Nat} {A_BadText A_TooLong A_GlimError : Addr} (E_TooLong : Err P w K mg base "TooLong" A_TooLong "number") (g_TooLong : mg "TooLong" = some (.ref A_TooLong)) (E_BadText : GlobC mg "BadText" A_BadText) (E_GlimError : GlobC mg "GlimError" A_GlimError) (LK : LongK K A_TooLong A_BadText A_GlimError) (C_read_round : Can P w K mg base (L2.CX P w) 25 "read_round" ["text"] (spReadRound K A_BadText A_TooLong)) : Can P w K mg base L2.CX0 26 "_law_told" ["_law_text_here"] (spTold n) := by
  refine can0 F sc_l_told (fun vs H Q E h => ?_) (fun f cdv A outer s H vs Q E hr h => ⟨_, (pss_cons (ps_try_as (i := 1) (Wout := fun _ _ _ _ => False) rfl rfl sc_l_told.nd rfl rfl ⟨rfl, by decide, Or.inl g_TooLong⟩ takes0
    (fun W pn xe tk _ => (pss_one (ps_ret (pe_tup (pa_cons (pe_strL [114, 111, 119] (by decide +kernel)) (pa_cons (pe_canS C_read_round hr (by decide) rfl (fun σ => passAt tk σ) (pa_cons (pv 0) pa_nil)) pa_nil))))))
    (fun a oe cls d pn hz hf => (pss_one (ps_if (PW.pt (pw_and (pt_val (pe_callB (call_isX hz hf) (by rfl) T.b_isinstance boot_isinstance (pa_cons (pv 1) (pa_cons (pe_glob (v := .ref A_GlimError) rfl E_GlimError.g rfl) pa_nil)))) (pw_and (pt_val (pe_callB (call_isX hz hf) (by rfl) T.b_isinstance boot_isinstance (pa_cons (pv 1) (pa_cons (pe_bltn (v := .ty "ValueError") (by rfl) T.b_ValueError (by decide +kernel) rfl) pa_nil)))) (pw_and1 (pt_not (pt_val (pe_callB (call_isX hz hf) (by rfl) T.b_isinstance boot_isinstance (pa_cons (pv 1) (pa_cons (pe_glob (v := .ref A_BadText) rfl E_BadText.g rfl) pa_nil))))))))) (pss_one (ps_ret (pe_tup (pa_cons (pe_strL [108, 111, 110, 103] (by decide +kernel)) (pa_cons (pe_xf E_TooLong.xf E_TooLong.noN hz hf (pv 1)) pa_nil))))) pss_nil))))
  (pss_one (ps_ret (pe_tup (pa_cons (pe_strL [111, 116, 104, 101, 114] (by decide +kernel)) (pa_cons pe_non pa_nil)))))), ?_⟩)
  · obtain ⟨_, rfl, _⟩ := h
    rfl
  · obtain ⟨x, rfl, hn, hok, hlen, q⟩ := h
    have hrd := round_reads hn x hok
    walk_at "rd"
    refine ⟨_, rfl, .inr ⟨wT n x, rfl, by omega, ?_⟩⟩
    unfold OutRound
    rw [hrd]
    refine ⟨fun h24 H1 ex1 => ?_, fun h24 => ?_⟩
    · have h24' : cT n x ≤ 24 := h24
      have e : said (cT n x) (rowOf (cT n x) (sT n x)) = [.str (S wRow), .str (S (rowOf (cT n x) (sT n x)))] := if_pos h24'
      rw [e] at q
      walk_at "rd"
      refine ⟨small (by show 2 ≤ 1000000; decide), fun p hp => ?_⟩
      exact q p _ (ex1.trans (Evl.Ex.new hp)) upd_same
    · have h24' : 24 < cT n x := h24
      have e : said (cT n x) (rowOf (cT n x) (sT n x)) = [.str (S wLong), .int (cT n x : Int)] := if_neg (by omega)
      rw [e] at q
      intro dd H1 hd ex1 hdd
      refine r_wAs LK.xm fun a0 ha0 => ?_
      walk_at "rd"
      refine r_isX E_TooLong.xc LK.kg hdd ?_
      walk_at "rd"
      refine r_isXT E_TooLong.xc LK.kv hdd ?_
      walk_at "rd"
      refine r_isX E_TooLong.xc LK.kb hdd ?_
      walk_at "rd"
      refine ⟨rfl, rfl, dd, _, _, rfl, hdd, rfl, ?_⟩
      walk_at "rd"
      refine ⟨small (by show 2 ≤ 1000000; decide), fun p hp => ?_⟩
      exact q p _ (ex1.trans (Evl.Ex.new hp)) upd_same
def spAgree : Sp := fun vs H Q _ => ∃ (p r : Addr) (c : Nat) (row : List Nat), vs = [.ref p, .ref r] ∧ H p = some (.tup (said c row)) ∧ H r = some (.tup (said c row)) ∧ Q (.bl true) H
abbrev s_l_agree : Stmt := topS 49
abbrev N_l_agree : List Str := ["_law_told_here", "_law_due_here"]
theorem sc_l_agree : FnScope ["_law_told_here", "_law_due_here"] ["_law_told_here", "_law_due_here"] (defScope s_l_agree) := ⟨rfl, rfl, rfl, by decide +kernel, rfl, by decide +kernel, by decide +kernel⟩
theorem can_l_agree (T : Bi mg) (F : Defd K mg "_law_agree" s_l_agree ["_law_told_here", "_law_due_here"]) (C_l_is_int : Can P w K mg base L2.CX0 1 "_law_is_int" ["_law_thing"] spIsIntI) : Can P w K mg base L2.CX0 2 "_law_agree" ["_law_told_here", "_law_due_here"] spAgree := by
  refine can0 F sc_l_agree (fun vs H Q E h => ?_) (fun f cdv A outer s H vs Q E hr h => ⟨_, (pss_cons (ps_if (pt_cmpR op_ne (pe_ix ix_tup (pv 0) pe_int (fun _ _ => rfl)) (pe_ix ix_tup (pv 1) pe_int (fun _ _ => rfl)) (nomark _)) (pss_one (ps_ret pe_bl)) pss_nil)
  (pss_cons (ps_if (pt_cmpR op_eq (pe_ix ix_tup (pv 1) pe_int (fun _ _ => rfl)) (pe_strL [114, 111, 119] (by decide +kernel)) (nomark _)) (pss_one (ps_ret (pe_and (pe_callB call_isi (by rfl) T.b_isinstance boot_isinstance (pa_cons (pe_ix ix_tup (pv 0) pe_int (fun _ _ => rfl)) (pa_cons (pe_bltn (v := .ty "str") (by rfl) T.b_str boot_str rfl) pa_nil))) (pe_one (pe_cmpR op_eq (pe_ix ix_tup (pv 0) pe_int (fun _ _ => rfl)) (pe_ix ix_tup (pv 1) pe_int (fun _ _ => rfl)) (nomark _)))))) pss_nil)
  (pss_one (ps_ret (pe_and (pe_can C_l_is_int hr (by decide) rfl (pa_cons (pe_ix ix_tup (pv 0) pe_int (fun _ _ => rfl)) pa_nil)) (pe_one (pe_cmpR op_eq (pe_ix ix_tup (pv 0) pe_int (fun _ _ => rfl)) (pe_ix ix_tup (pv 1) pe_int (fun _ _ => rfl)) (nomark _)))))))), ?_⟩)
  · obtain ⟨_, _, _, _, rfl, _⟩ := h
    rfl
  · obtain ⟨p, r, c, row, rfl, hp, hr2, q⟩ := h
    by_cases h24 : c ≤ 24
    · have e : said c row = [.str (S wRow), .str (S row)] := if_pos h24
      rw [e] at hp hr2
      walk_at "rd"
      refine r_iteN (fun z => absurd rfl z) (fun _ => ?_)
      walk_at "rd"
      refine r_ite (fun _ => ?_) (fun z => absurd rfl z)
      walk_at "rd"
      rw [decide_eq_true rfl]
      exact q
    · have e : said c row = [.str (S wLong), .int (c : Int)] := if_neg h24
      rw [e] at hp hr2
      walk_at "rd"
      refine r_iteN (fun z => absurd rfl z) (fun _ => ?_)
      walk_at "rd"
      refine r_ite (fun z => absurd z (by decide)) (fun _ => ?_)
      walk_at "rd"
      refine ⟨_, rfl, ?_⟩
      walk_at "rd"
      rw [decide_eq_true rfl]
      exact q
end
end Fk

set_option Elab.async false
set_option linter.all false
set_option maxRecDepth 100000
set_option maxHeartbeats 4000000
namespace Fk
open PySem PySem.Spec PyProof.Rows L2 Fg Rt
local macro_rules | `(tactic| walk_at "rd1") => `(tactic| first
  | with_reducible refine r_seq ?_
  | with_reducible refine r_asg ?_
  | with_reducible refine r_gname ?_
  | with_reducible refine r_gsub ?_
  | with_reducible refine r_ret ?_
  | with_reducible refine r_retN ?_
  | with_reducible refine r_next ?_
  | with_reducible refine r_drop ?_
  | with_reducible refine r_ifS ?_
  | with_reducible refine r_if ?_
  | with_reducible refine r_par ?_
  | with_reducible refine r_pair ?_
  | with_reducible refine r_test ?_
  | with_reducible refine r_tB ?_
  | with_reducible refine r_not ?_
  | with_reducible refine r_and ?_
  | with_reducible refine r_or ?_
  | with_reducible refine r_andV ?_
  | with_reducible refine r_orV ?_
  | with_reducible refine r_notV ?_
  | with_reducible refine r_nil ?_
  | with_reducible refine r_cons ?_
  | with_reducible refine r_call ?_
  | with_reducible refine r_callS ?_
  | with_reducible refine r_cb ?_
  | with_reducible refine r_then ?_
  | with_reducible refine r_tup ?_
  | with_reducible refine r_lst ?_
  | with_reducible refine r_sl ?_
  | with_reducible refine r_nopart ?_
  | with_reducible refine r_part ?_
  | with_reducible refine r_lcR1 ?_
  | with_reducible refine r_lcR2 ?_
  | with_reducible refine r_lcL ?_
  | with_reducible refine r_lcT ?_
  | with_reducible refine r_forR1 ?_
  | with_reducible refine r_forR2 ?_
  | with_reducible refine r_forL ?_
  | with_reducible refine r_forT ?_
  | with_reducible refine r_forE ?_
  | with_reducible refine r_strE ?_
  | ((with_reducible refine r_rng1 ?hc ?_); (case hc => omega))
  | ((with_reducible refine r_rng2 ?hc ?_); (case hc => omega))
  | ((with_reducible refine' r_refL ?hc ?_); (case hc => first | assumption | exact Evl.sq_of (by assumption)))
  | ((with_reducible refine' r_refT ?hc ?_); (case hc => first | assumption | exact Evl.st_of (by assumption)))
  | with_reducible refine r_op ?_
  | with_reducible refine r_un ?_
  | with_reducible refine r_chain ?_
  | ((with_reducible refine' r_var ?hv ?_); (case hv => exact rfl))
  | with_reducible refine r_cS ?_
  | with_reducible refine r_cs ?_
  | with_reducible refine r_c ?_
  | with_reducible refine r_yes ?_
  | with_reducible refine r_bm ?_
  | with_reducible refine r_bl ?_
  | with_reducible refine r_in ?_
  | with_reducible refine r_ty ?_
  | with_reducible refine r_I0 ?_
  | ((with_reducible refine r_I ?hc ?_); (case hc => first | assumption | (show (0 : Int) < _; decide) | exact Or.inr ⟨by decide, by decide⟩ | exact Or.inr ⟨by omega, by omega⟩ | exact Or.inl ⟨by decide, by decide⟩ | exact (show CDivW _ _ from ⟨by decide, by decide +kernel⟩) | exact (show CPowW _ _ from ⟨by decide, by decide +kernel⟩) | (show (0 : Int) < _; omega)))
  | with_reducible refine r_U ?_
  | with_reducible refine r_eqI ?_
  | with_reducible refine r_neI ?_
  | with_reducible refine r_eqS ?_
  | with_reducible refine r_neS ?_
  | with_reducible refine r_eqB ?_
  | with_reducible refine r_neB ?_
  | with_reducible refine r_niS ?_
  | with_reducible refine r_inSS ?_
  | ((with_reducible refine r_slSS ?hc ?_); (case hc => first | exact small (by omega) | exact small (by simp; omega)))
  | ((with_reducible refine r_lenS ?hc ?_); (case hc => first | exact small (by omega) | exact small (by simp; omega)))
  | ((with_reducible refine' r_lenL ?hc ?_); (case hc => first | assumption | exact Evl.sq_of (by assumption)))
  | ((with_reducible refine' r_lenT ?hc ?_); (case hc => first | assumption | exact Evl.st_of (by assumption)))
  | ((with_reducible refine' r_ixL ?h1 ?h2 ?h3 ?_); (case h1 => first | assumption | exact Evl.sq_of (by assumption) | exact Evl.sq_of upd_same); (case h2 => first | decide | omega); (case h3 => first | exact rfl | assumption))
  | ((with_reducible refine' r_ixT ?h1 ?h2 ?h3 ?_); (case h1 => first | assumption | exact Evl.st_of (by assumption)); (case h2 => first | decide | omega); (case h3 => first | exact rfl | assumption))
  | with_reducible refine r_T ?_
  | with_reducible refine r_notNn ?_
  | with_reducible refine r_notN_int ?_
  | with_reducible refine r_notN_str ?_
  | with_reducible refine r_notN_ref ?_
  | with_reducible refine r_isNn ?_
  | with_reducible refine r_isN_int ?_
  | with_reducible refine r_isN_str ?_
  | with_reducible refine r_isN_ref ?_
  | ((with_reducible refine' r_isi ?ht ?hk ?_); (case ht => first | exact .base (.int _) | exact .base (.bl _) | exact .base (.str _) | exact .base .non | exact .base (.lst (by assumption)) | exact .base (.tup (by assumption))); (case hk => first | exact kb_int_int | exact kb_int_bool | exact kb_int_str | exact kb_int_list | exact kb_int_tuple | exact kb_bool_int | exact kb_bool_bool | exact kb_bool_str | exact kb_bool_list | exact kb_bool_tuple | exact kb_str_int | exact kb_str_bool | exact kb_str_str | exact kb_str_list | exact kb_str_tuple | exact kb_NoneType_int | exact kb_NoneType_bool | exact kb_NoneType_str | exact kb_NoneType_list | exact kb_NoneType_tuple | exact kb_list_int | exact kb_list_bool | exact kb_list_str | exact kb_list_list | exact kb_list_tuple | exact kb_tuple_int | exact kb_tuple_bool | exact kb_tuple_str | exact kb_tuple_list | exact kb_tuple_tuple))
  | with_reducible refine r_F ?_
  | with_reducible refine r_nT ?_
  | with_reducible refine r_nF ?_
  | with_reducible refine r_mko ?_
  | with_reducible refine r_xf ?_
  | ((with_reducible refine' r_sum ?hc ?_); (case hc => first | assumption | exact Evl.sq_of (by assumption)))
  | ((with_reducible refine' r_setL ?h1 ?h2 ?h3 ?_); (case h1 => first | assumption | exact upd_same); (case h2 => first | decide | omega); (case h3 => first | (show _ < _; decide) | (simp; done)))
  | with_reducible refine r_int ?_
  | with_reducible refine r_abs ?_)
local macro_rules | `(tactic| walk_at "rd") => `(tactic| repeat (walk_at "rd1"))

section
variable {P : Program} {w : World} {K : PySem.W.Frag} {mg : Str → Option Value} {base : Heap}
/-! ### what is new in a heap; all but two addresses kept -/
def New (H H' : Hp) : Hp := fun b => match H b with
  | none => H' b
  | some _ => none
theorem new_get {H H' : Hp} {b : Addr} {o : HO} (h : H b = none) (k : H' b = some o) : New H H' b = some o := by
  unfold New; rw [h]; exact k
theorem new_some {H H' : Hp} {b : Addr} {o : HO} (h : New H H' b = some o) : H b = none ∧ H' b = some o := by
  unfold New at h
  split at h
  · exact ⟨by assumption, h⟩
  · cases h
theorem new_sub {H H' : Hp} : Ex (New H H') H' := fun b o h => (new_some h).2
/-- nothing that was there is gone -/
def Grow (H H' : Hp) : Prop := ∀ b, H' b = none → H b = none
theorem Grow.trans {H H1 H2 : Hp} (a : Grow H H1) (b : Grow H1 H2) : Grow H H2 := fun x h => a x (b x h)
theorem Grow.refl (H : Hp) : Grow H H := fun _ h => h
theorem Grow.ex {H H' : Hp} (e : Ex H H') : Grow H H' := fun b h => by
  cases q : H b with
  | none => rfl
  | some o => rw [e b o q] at h; cases h
theorem Grow.upd {H : Hp} {p : Addr} {o : HO} : Grow H (L2.upd H p o) := fun b h => by
  by_cases e : b = p
  · subst e; rw [upd_same] at h; cases h
  · rw [upd_ne e] at h; exact h
/-- all but d and t are kept -/
def Kq (d t : Addr) (H H' : Hp) : Prop := Grow H H' ∧ ∀ b o, b ≠ d → b ≠ t → H b = some o → H' b = some o
theorem Kq.refl (d t : Addr) (H : Hp) : Kq d t H H := ⟨Grow.refl _, fun _ _ _ _ h => h⟩
theorem Kq.trans {d t : Addr} {H H1 H2 : Hp} (a : Kq d t H H1) (b : Kq d t H1 H2) : Kq d t H H2 := ⟨a.1.trans b.1, fun x o n m h => b.2 x o n m (a.2 x o n m h)⟩
theorem Kq.of {d t : Addr} {H H' : Hp} (e : Ex H H') : Kq d t H H' := ⟨.ex e, fun b o _ _ h => e b o h⟩
theorem Kq.kp {d t : Addr} {H H' : Hp} (k : Kp d H H') (g : Grow H H') : Kq d t H H' := ⟨g, fun b o n _ h => k b o n h⟩
theorem Kq.put {d t : Addr} {H : Hp} {o : HO} : Kq d t H (L2.upd H t o) := ⟨.upd, fun b u _ n h => by rw [upd_ne n]; exact h⟩
/-- what is new stays, and is new to all that stood before -/
theorem new_keep {d t : Addr} {H0 H H' H2 : Hp} (g : Grow H0 H) (k : Kq d t H' H2) (hd : H d ≠ none) (ht : H t ≠ none) : Ex (New H H') (New H0 H2) := fun b o h => by
  obtain ⟨h1, h2⟩ := new_some h
  refine new_get (g b h1) (k.2 b o (fun z => hd (by rw [← z]; exact h1)) (fun z => ht (by rw [← z]; exact h1)) h2)
theorem Dr.some {ns : List Int} {c d : Addr} {H : Hp} (h : Dr ns c d H) : H d ≠ none := fun z => by
  obtain ⟨i, m, big, cnt, b, e, r⟩ := h.ex
  rw [e] at z
  cases z
theorem Dr.nd {ns : List Int} {c d D : Addr} {H : Hp} (h : Dr ns c d H) (n : H D = none) : D ≠ d := fun z => h.some (by rw [← z]; exact n)
theorem Dr.nc {ns : List Int} {c d D : Addr} {H : Hp} (h : Dr ns c d H) (n : H D = none) : D ≠ c := fun z => by
  rw [z, h.cells] at n
  cases n
theorem Dr.mut {ns : List Int} {c d D : Addr} {H : Hp} {o : HO} (h : Dr ns c d H) (nc : D ≠ c) (nd : D ≠ d) : Dr ns c d (upd H D o) := ⟨h.ne, by rw [upd_ne (Ne.symm nc)]; exact h.cells, by
  obtain ⟨i, n, big, cnt, b, e, r⟩ := h.ex
  exact ⟨i, n, big, cnt, b, by rw [upd_ne (Ne.symm nd)]; exact e, r⟩⟩
theorem Kq.pick {ns : List Int} {c d t : Addr} {H H' : Hp} (k : Kp d H H') (h : Dr ns c d H') : Kq d t H H' := Kq.kp k fun b hb => by
  by_cases e : b = d
  · subst e
    exact absurd hb h.some
  · cases q : H b with
    | none => rfl
    | some o => rw [k b o e q] at hb; cases hb
def spSign : Sp := fun vs H Q _ => ∃ (c d : Addr) (ns : List Int), vs = [.ref d] ∧ Dr ns c d H ∧ ∀ (x : Nat) H', isSg x = true → Kp d H H' → Dr ns c d H' → Q (.str (S [x])) H'
abbrev s_l_sign : Stmt := topS 30
abbrev N_l_sign : List Str := ["_law_draw_here"]
theorem sc_l_sign : FnScope ["_law_draw_here"] ["_law_draw_here"] (defScope s_l_sign) := ⟨rfl, rfl, rfl, by decide +kernel, rfl, by decide +kernel, by decide +kernel⟩
theorem can_l_sign (T : Bi mg) (F : Defd K mg "_law_sign" s_l_sign ["_law_draw_here"]) (C_l_pick : Can P w K mg base L2.CX0 2 "_law_pick" ["_law_draw_here", "_law_many"] spPick) : Can P w K mg base L2.CX0 3 "_law_sign" ["_law_draw_here"] spSign := by
  refine can0 F sc_l_sign (fun vs H Q E h => ?_) (fun f cdv A outer s H vs Q E hr h => ⟨_, (pss_one (ps_ret (pe_ix ix_strS (pe_strL [46, 46, 46, 119, 119, 114, 103] (by decide +kernel)) (pe_can C_l_pick hr (by decide) rfl (pa_cons (pv 0) (pa_cons pe_int pa_nil))) (fun _ _ => rfl)))), ?_⟩)
  · obtain ⟨_, _, _, rfl, _⟩ := h
    rfl
  · obtain ⟨c, d, ns, rfl, hD, q⟩ := h
    walk_at "rd"
    refine ⟨c, d, 7, ns, rfl, hD, by decide, fun k H' h0 h1 kp hD' => ?_⟩
    have key : ∀ j : Fin 7, isSg (([46, 46, 46, 119, 119, 114, 103] : List Nat)[j.val]'j.isLt) = true := by decide
    have hk : k.toNat < 7 := by omega
    exact r_ixSS (small (by decide)) h0 (List.getElem?_eq_getElem hk) (q _ H' (key ⟨k.toNat, hk⟩) kp hD')
end
end Fk

set_option Elab.async false
set_option linter.all false
set_option maxRecDepth 100000
set_option maxHeartbeats 4000000
namespace Fk
open PySem PySem.Spec PyProof.Rows L2 Fg Rt
local macro_rules | `(tactic| walk_at "rd1") => `(tactic| first
  | with_reducible refine r_seq ?_
  | with_reducible refine r_asg ?_
  | with_reducible refine r_gname ?_
  | with_reducible refine r_gsub ?_
  | with_reducible refine r_ret ?_
  | with_reducible refine r_retN ?_
  | with_reducible refine r_next ?_
  | with_reducible refine r_drop ?_
  | with_reducible refine r_ifS ?_
  | with_reducible refine r_if ?_
  | with_reducible refine r_par ?_
  | with_reducible refine r_pair ?_
  | with_reducible refine r_test ?_
  | with_reducible refine r_tB ?_
  | with_reducible refine r_not ?_
  | with_reducible refine r_and ?_
  | with_reducible refine r_or ?_
  | with_reducible refine r_andV ?_
  | with_reducible refine r_orV ?_
  | with_reducible refine r_notV ?_
  | with_reducible refine r_nil ?_
  | with_reducible refine r_cons ?_
  | with_reducible refine r_call ?_
  | with_reducible refine r_callS ?_
  | with_reducible refine r_cb ?_
  | with_reducible refine r_then ?_
  | with_reducible refine r_tup ?_
  | with_reducible refine r_lst ?_
  | with_reducible refine r_sl ?_
  | with_reducible refine r_nopart ?_
  | with_reducible refine r_part ?_
  | with_reducible refine r_lcR1 ?_
  | with_reducible refine r_lcR2 ?_
  | with_reducible refine r_lcL ?_
  | with_reducible refine r_lcT ?_
  | with_reducible refine r_forR1 ?_
  | with_reducible refine r_forR2 ?_
  | with_reducible refine r_forL ?_
  | with_reducible refine r_forT ?_
  | with_reducible refine r_forE ?_
  | with_reducible refine r_strE ?_
  | ((with_reducible refine r_rng1 ?hc ?_); (case hc => omega))
  | ((with_reducible refine r_rng2 ?hc ?_); (case hc => omega))
  | ((with_reducible refine' r_refL ?hc ?_); (case hc => first | assumption | exact Evl.sq_of (by assumption)))
  | ((with_reducible refine' r_refT ?hc ?_); (case hc => first | assumption | exact Evl.st_of (by assumption)))
  | with_reducible refine r_op ?_
  | with_reducible refine r_un ?_
  | with_reducible refine r_chain ?_
  | ((with_reducible refine' r_var ?hv ?_); (case hv => exact rfl))
  | with_reducible refine r_cS ?_
  | with_reducible refine r_cs ?_
  | with_reducible refine r_c ?_
  | with_reducible refine r_yes ?_
  | with_reducible refine r_bm ?_
  | with_reducible refine r_bl ?_
  | with_reducible refine r_in ?_
  | with_reducible refine r_ty ?_
  | with_reducible refine r_I0 ?_
  | ((with_reducible refine r_I ?hc ?_); (case hc => first | assumption | (show (0 : Int) < _; decide) | exact Or.inr ⟨by decide, by decide⟩ | exact Or.inr ⟨by omega, by omega⟩ | exact Or.inl ⟨by decide, by decide⟩ | exact (show CDivW _ _ from ⟨by decide, by decide +kernel⟩) | exact (show CPowW _ _ from ⟨by decide, by decide +kernel⟩) | (show (0 : Int) < _; omega)))
  | with_reducible refine r_U ?_
  | with_reducible refine r_eqI ?_
  | with_reducible refine r_neI ?_
  | with_reducible refine r_eqS ?_
  | with_reducible refine r_neS ?_
  | with_reducible refine r_eqB ?_
  | with_reducible refine r_neB ?_
  | with_reducible refine r_niS ?_
  | with_reducible refine r_inSS ?_
  | ((with_reducible refine r_slSS ?hc ?_); (case hc => first | exact small (by omega) | exact small (by simp; omega)))
  | ((with_reducible refine r_lenS ?hc ?_); (case hc => first | exact small (by omega) | exact small (by simp; omega)))
  | ((with_reducible refine' r_lenL ?hc ?_); (case hc => first | assumption | exact Evl.sq_of (by assumption)))
  | ((with_reducible refine' r_lenT ?hc ?_); (case hc => first | assumption | exact Evl.st_of (by assumption)))
  | ((with_reducible refine' r_ixL ?h1 ?h2 ?h3 ?_); (case h1 => first | assumption | exact Evl.sq_of (by assumption) | exact Evl.sq_of upd_same); (case h2 => first | decide | omega); (case h3 => first | exact rfl | assumption))
  | ((with_reducible refine' r_ixT ?h1 ?h2 ?h3 ?_); (case h1 => first | assumption | exact Evl.st_of (by assumption)); (case h2 => first | decide | omega); (case h3 => first | exact rfl | assumption))
  | with_reducible refine r_T ?_
  | with_reducible refine r_notNn ?_
  | with_reducible refine r_notN_int ?_
  | with_reducible refine r_notN_str ?_
  | with_reducible refine r_notN_ref ?_
  | with_reducible refine r_isNn ?_
  | with_reducible refine r_isN_int ?_
  | with_reducible refine r_isN_str ?_
  | with_reducible refine r_isN_ref ?_
  | ((with_reducible refine' r_isi ?ht ?hk ?_); (case ht => first | exact .base (.int _) | exact .base (.bl _) | exact .base (.str _) | exact .base .non | exact .base (.lst (by assumption)) | exact .base (.tup (by assumption))); (case hk => first | exact kb_int_int | exact kb_int_bool | exact kb_int_str | exact kb_int_list | exact kb_int_tuple | exact kb_bool_int | exact kb_bool_bool | exact kb_bool_str | exact kb_bool_list | exact kb_bool_tuple | exact kb_str_int | exact kb_str_bool | exact kb_str_str | exact kb_str_list | exact kb_str_tuple | exact kb_NoneType_int | exact kb_NoneType_bool | exact kb_NoneType_str | exact kb_NoneType_list | exact kb_NoneType_tuple | exact kb_list_int | exact kb_list_bool | exact kb_list_str | exact kb_list_list | exact kb_list_tuple | exact kb_tuple_int | exact kb_tuple_bool | exact kb_tuple_str | exact kb_tuple_list | exact kb_tuple_tuple))
  | with_reducible refine r_F ?_
  | with_reducible refine r_nT ?_
  | with_reducible refine r_nF ?_
  | with_reducible refine r_mko ?_
  | with_reducible refine r_xf ?_
  | ((with_reducible refine' r_sum ?hc ?_); (case hc => first | assumption | exact Evl.sq_of (by assumption)))
  | ((with_reducible refine' r_setL ?h1 ?h2 ?h3 ?_); (case h1 => first | assumption | exact upd_same); (case h2 => first | decide | omega); (case h3 => first | (show _ < _; decide) | (simp; done)))
  | with_reducible refine r_int ?_
  | with_reducible refine r_abs ?_)
local macro_rules | `(tactic| walk_at "rd") => `(tactic| repeat (walk_at "rd1"))

section
variable {P : Program} {w : World} {K : PySem.W.Frag} {mg : Str → Option Value} {base : Heap}
/-- the tally: k turns -/
def Tally (t : Addr) (k : Nat) (H : Hp) : Prop := H t = some (.lst (List.replicate k (.int 1)))
structure Made (ns : List Int) (c d t : Addr) (H : Hp) (k : Nat) (k' : Nat) (H' : Hp) : Prop where
  kq : Kq d t H H'
  dr : Dr ns c d H'
  tl : Tally t k' H'
  le : k ≤ k'
theorem r_ifAll {cnd : TT} {t u : TS} {D : Ends} {σ : L2.St} {H : Hp} (b : Bool) (hc : ∀ Q : Bool → Hp → Prop, Q b H → cnd σ H Q) (ht : b = true → t D σ H) (hu : b = false → u D σ H) : tIfS cnd t u D σ H := hc _ (by
  cases b with
  | true => exact ht rfl
  | false => exact hu rfl)
theorem add_item {n : Nat} {HL H H5 : Hp} {ns : List Int} {c d t L p : Addr} {vs : List V} {l : List (It (T n))} {it : It (T n)} {o : HO} {k2 : Nat} (HLL : HL L ≠ none) (hLH : H L = none) (Ld : L ≠ d) (Lt : L ≠ t) (Lc : L ≠ c) (kq : Kq d t H H5) (hD : Dr ns c d H5) (hT : Tally t k2 H5) (hL : H5 L = some (.lst vs))
    (hA : All2 (ItAt (TAt n) (New HL H5)) vs l) (hv : vs.length < 1000) (hp : H5 p = none) (hpL : HL p = none) (hit : ∀ H6, Ex (New HL H5) (New HL H6) → New HL H6 p = some o → ItAt (TAt n) (New HL H6) (.ref p) it) :
    Kq d t H (upd (upd H5 p o) L (.lst (vs ++ [.ref p]))) ∧ Dr ns c d (upd (upd H5 p o) L (.lst (vs ++ [.ref p]))) ∧ Tally t k2 (upd (upd H5 p o) L (.lst (vs ++ [.ref p]))) ∧ All2 (ItAt (TAt n) (New HL (upd (upd H5 p o) L (.lst (vs ++ [.ref p]))))) (vs ++ [.ref p]) (l ++ [it]) := by
  have pL : p ≠ L := fun z => by rw [z, hL] at hp; cases hp
  have ex1 : Ex H5 (upd H5 p o) := Evl.Ex.new hp
  have hD1 := hD.ex' ex1
  have hT1 : Tally t k2 (upd H5 p o) := ex1 _ _ hT
  have g : (upd (upd H5 p o) L (.lst (vs ++ [.ref p]))) p = some o := by rw [upd_ne pL, upd_same]
  have en : Ex (New HL H5) (New HL (upd (upd H5 p o) L (.lst (vs ++ [.ref p])))) := fun b u h => by
    obtain ⟨h1, h2⟩ := new_some h
    have nL : b ≠ L := fun z => HLL (by rw [← z]; exact h1)
    have np : b ≠ p := fun z => by rw [z, hp] at h2; cases h2
    exact new_get h1 (by rw [upd_ne nL, upd_ne np]; exact h2)
  refine ⟨⟨fun b hb => ?_, fun b u n1 n2 h => ?_⟩, hD1.mut Lc Ld, ?_, ?_, ?_, fun k v x h1 h2 => ?_⟩
  · by_cases e : b = L
    · rw [e]; exact hLH
    · rw [upd_ne e] at hb
      exact kq.1 b (Grow.ex ex1 b hb)
  · have nL : b ≠ L := fun z => by rw [z, hLH] at h; cases h
    rw [upd_ne nL]
    exact ex1 _ _ (kq.2 b u n1 n2 h)
  · unfold Tally
    rw [upd_ne (Ne.symm Lt)]
    exact hT1
  · rw [List.length_append, List.length_append, hA.1]; rfl
  · rw [List.length_append]; show _ + 1 ≤ 1000; omega
  · by_cases e : k < vs.length
    · rw [List.getElem?_append_left e] at h1
      rw [List.getElem?_append_left (by rw [← hA.1]; exact e)] at h2
      exact (hA.2.2 k v x h1 h2).ex (TAt.ex n) en
    · rw [List.getElem?_append_right (by omega)] at h1
      rw [List.getElem?_append_right (by rw [← hA.1]; omega)] at h2
      have ek : k - vs.length = 0 := by
        rcases Nat.eq_zero_or_pos (k - vs.length) with z | z
        · exact z
        · rw [List.getElem?_eq_none (by show 1 ≤ _; omega)] at h1; cases h1
      rw [ek] at h1
      rw [← hA.1, ek] at h2
      cases h1
      cases h2
      exact hit _ en (new_get hpL g)
def spRoomPart (n : Nat) : Sp := fun vs H Q _ => ∃ (c d t : Addr) (room dp k : Nat) (ns : List Int), vs = [.ref d, .int (room : Int), .int (dp : Int), .ref t] ∧ Dr ns c d H ∧ Tally t k H ∧ t ≠ d ∧ t ≠ c ∧ 1 ≤ room ∧ room ≤ 24 ∧ k ≤ 500 ∧ 4 ≤ n + dp ∧
  ∀ (v : V) (p : Pt (T n)) (k' : Nat) H', Made ns c d t H k k' H' → PtAt (TAt n) (New H H') v p → okPart (okT n) (cT n) p → cPart (cT n) p ≤ room → ((p.1.map (wItem (wT n))).flatten).length + 5 ≤ 8 * (k' - k) → k < k' → k' ≤ max k (40 + 4 * (4 - dp)) + 4 → Q v H'
def spRoomText (n : Nat) : Sp := fun vs H Q _ => ∃ (c d t : Addr) (room dp k : Nat) (ns : List Int), vs = [.ref d, .int (room : Int), .int (dp : Int), .ref t] ∧ Dr ns c d H ∧ Tally t k H ∧ t ≠ d ∧ t ≠ c ∧ 1 ≤ room ∧ room ≤ 24 ∧ k ≤ 500 ∧ 5 ≤ n + dp ∧ dp ≤ 4 ∧
  ∀ (v : V) (x : T n) (k' : Nat) H', Made ns c d t H k k' H' → TAt n (New H H') v x → okT n x → cT n x ≤ room → (wT n x).length + 2 ≤ 8 * (k' - k) → k < k' → k' ≤ max k (40 + 4 * (4 - dp)) + 4 → Q v H'
abbrev s_l_room_part : Stmt := topS 40
abbrev N_l_room_part : List Str := ["_law_draw_here", "_law_room", "_law_depth", "_law_tally", "_law_items", "_law_used", "_law_turn", "_law_left", "_law_kind", "_law_times", "_law_item"]
theorem sc_l_room_part : FnScope ["_law_draw_here", "_law_room", "_law_depth", "_law_tally", "_law_items", "_law_used", "_law_turn", "_law_left", "_law_kind", "_law_times", "_law_item"] ["_law_draw_here", "_law_room", "_law_depth", "_law_tally"] (defScope s_l_room_part) := ⟨rfl, rfl, rfl, by decide +kernel, rfl, by decide +kernel, by decide +kernel⟩
theorem can_l_room_part (T : Bi mg) (F : Defd K mg "_law_room_part" s_l_room_part ["_law_draw_here", "_law_room", "_law_depth", "_law_tally"]) {n k j : Nat} (hk : 3 ≤ k) (hj : j ≤ k) (C_l_pick : Can P w K mg base L2.CX0 2 "_law_pick" ["_law_draw_here", "_law_many"] spPick) (C_l_sign : Can P w K mg base L2.CX0 3 "_law_sign" ["_law_draw_here"] spSign) (C_l_item_count : Can P w K mg base L2.CX0 j "_law_item_count" ["_law_item"] (spItemC n)) (C_l_room_text : Can P w K mg base L2.CX0 k "_law_room_text" ["_law_draw_here", "_law_room", "_law_depth", "_law_tally"] (spRoomText n)) : Can P w K mg base L2.CX0 (k + 1) "_law_room_part" ["_law_draw_here", "_law_room", "_law_depth", "_law_tally"] (spRoomPart n) := by
  refine can0 F sc_l_room_part (fun vs H Q E h => ?_) (fun f cdv A outer s H vs Q E hr h => ⟨_, (pss_cons (ps_set (i := 4) sc_l_room_part.nd rfl (by first | exact Or.inl rfl | exact Or.inr rfl) (pe_lst pa_nil))
  (pss_cons (ps_set (i := 5) sc_l_room_part.nd rfl (by first | exact Or.inl rfl | exact Or.inr rfl) pe_int)
  (pss_cons (ps_for PassesOwn.never rfl (pi_range1 rfl T.b_range (pa_cons (pe_op op_add pe_int (pe_can C_l_pick hr (by omega) rfl (pa_cons (pv 0) (pa_cons pe_int pa_nil)))) pa_nil)) (pg_name (i := 6) sc_l_room_part.nd rfl (by first | exact Or.inl rfl | exact Or.inr rfl))
    (pss_cons (ps_expr (pe_bm PySem.F.plainAttrs_list PySem.F.slot_list_append PySem.F.type_list_append mt_append (pv 3) (pa_cons pe_int pa_nil)))
  (pss_cons (ps_set (i := 7) sc_l_room_part.nd rfl (by first | exact Or.inl rfl | exact Or.inr rfl) (pe_op op_sub (pv 1) (pv 5)))
  (pss_cons (ps_set (i := 8) sc_l_room_part.nd rfl (by first | exact Or.inl rfl | exact Or.inr rfl) (pe_can C_l_pick hr (by omega) rfl (pa_cons (pv 0) (pa_cons pe_int pa_nil))))
  (Evl.pss_cut (ps_if (PW.pt (pw_and (pt_cmpR op_gt (pv 7) pe_int (nomark _)) (pw_and (pt_cmpR op_eq (pv 8) pe_int (nomark _)) (pw_and (pt_cmpR op_lt (pv 2) pe_int (nomark _)) (pw_and1 (pt_cmpR op_lt (pe_callB call_lenQ (by rfl) T.b_len boot_len (pa_cons (pv 3) pa_nil)) pe_int (nomark _))))))) (pss_cons (ps_set (i := 9) sc_l_room_part.nd rfl (by first | exact Or.inl rfl | exact Or.inr rfl) (pe_op op_add pe_int (pe_can C_l_pick hr (by omega) rfl (pa_cons (pv 0) (pa_cons (pe_callB (call_min2 rfl) (by rfl) T.b_min boot_min (pa_cons pe_int (pa_cons (pe_op op_sub (pv 7) pe_int) pa_nil))) pa_nil)))))
  (pss_one (ps_expr (pe_bm PySem.F.plainAttrs_list PySem.F.slot_list_append PySem.F.type_list_append mt_append (pv 4) (pa_cons (pe_tup (pa_cons (pv 9) (pa_cons (pe_can C_l_room_text hr (by omega) rfl (pa_cons (pv 0) (pa_cons (pe_op op_fdivW (pv 7) (pv 9)) (pa_cons (pe_op op_add (pv 2) pe_int) (pa_cons (pv 3) pa_nil))))) pa_nil))) pa_nil))))) (pss_one (ps_if (PW.pt (pw_and (pt_cmpR op_gt (pv 7) pe_int (nomark _)) (pw_and1 (pt_cmpR op_eq (pv 8) pe_int (nomark _))))) (pss_one (ps_expr (pe_bm PySem.F.plainAttrs_list PySem.F.slot_list_append PySem.F.type_list_append mt_append (pv 4) (pa_cons (pe_tup (pa_cons (pe_op op_add pe_int (pe_can C_l_pick hr (by omega) rfl (pa_cons (pv 0) (pa_cons (pe_callB (call_min2 rfl) (by rfl) T.b_min boot_min (pa_cons pe_int (pa_cons (pe_op op_sub (pv 7) pe_int) pa_nil))) pa_nil)))) (pa_cons (pe_can C_l_sign hr (by omega) rfl (pa_cons (pv 0) pa_nil)) pa_nil))) pa_nil)))) (pss_one (ps_if (pt_cmpR op_gt (pv 7) pe_int (nomark _)) (pss_one (ps_expr (pe_bm PySem.F.plainAttrs_list PySem.F.slot_list_append PySem.F.type_list_append mt_append (pv 4) (pa_cons (pe_tup (pa_cons pe_int (pa_cons (pe_can C_l_sign hr (by omega) rfl (pa_cons (pv 0) pa_nil)) pa_nil))) pa_nil)))) pss_nil)))))
  (pss_one (ps_set (i := 5) sc_l_room_part.nd rfl (by first | exact Or.inl rfl | exact Or.inr rfl) (pe_callB (cr_sum rfl) (by rfl) T.b_sum boot_sum (pa_cons (pe_lc (own := [("_law_item", 10)]) (g := gName 10) (tt := tYes) rfl sc_l_room_part.nd (pi_list (pv 4)) (blkOk_by (N := N_l_room_part) (sc := defScope s_l_room_part) (by decide +kernel)) (fun _ _ _ _ _ => pg_name (i := 10) sc_l_room_part.nd rfl (Or.inl rfl)) (fun _ _ _ _ _ => pts_nil) (fun _ _ _ _ _ => (pe_can C_l_item_count hr (by omega) rfl (pa_cons (pv 10) pa_nil)))) pa_nil)))))))))
  (pss_cons (ps_if (pt_cmpR op_eq (pe_can C_l_pick hr (by omega) rfl (pa_cons (pv 0) (pa_cons pe_int pa_nil))) pe_int (nomark _)) (pss_one (ps_ret (pe_tup (pa_cons (pv 4) (pa_cons (pe_op op_add (pv 5) (pe_can C_l_pick hr (by omega) rfl (pa_cons (pv 0) (pa_cons (pe_op op_add (pe_op op_sub (pv 1) (pv 5)) pe_int) pa_nil)))) pa_nil))))) pss_nil)
  (pss_one (ps_ret (pe_tup (pa_cons (pv 4) (pa_cons pe_int pa_nil))))))))), ?_⟩)
  · obtain ⟨_, _, _, _, _, _, _, rfl, _⟩ := h
    rfl
  · obtain ⟨c, d, t, room, dp, k0, ns, rfl, hD, hT, td, tc, r1, r24, k500, hnd, q⟩ := h
    walk_at "rd"
    refine ⟨small (by show 0 ≤ 1000000; decide), fun L hL => ?_⟩
    have Ld : L ≠ d := hD.nd hL
    have Lc : L ≠ c := hD.nc hL
    have Lt : L ≠ t := fun z => by rw [z, hT] at hL; cases hL
    have exL := Evl.Ex.new (o := .lst []) hL
    have gL : (upd H L (.lst [])) L = some (.lst []) := upd_same
    generalize hHL : upd H L (.lst []) = HL at exL gL ⊢
    have hDL := hD.ex' exL
    have hTL : Tally t k0 HL := exL _ _ hT
    walk_at "rd"
    refine ⟨c, d, 4, ns, rfl, hDL, by decide, fun m H1 m0 m1 kp1 hD1 => ?_⟩
    have hT1 : Tally t k0 H1 := kp1 _ _ td hTL
    have gL1 := kp1 _ _ Ld gL
    have kq1 : Kq d t H H1 := (Kq.of exL).trans (Kq.pick kp1 hD1)
    walk_at "rd"
    let B := 40 + 4 * (4 - dp)
    refine forR (fun i σ' H' => ∃ (l : List (It (Rt.T n))) (vs : List V) (k' : Nat) (o6 o7 o8 o9 o10 : Option V), σ' = [some (.ref d), some (.int (room : Int)), some (.int (dp : Int)), some (.ref t), some (.ref L), some (.int ((cItems (cT n) l : Nat) : Int)), o6, o7, o8, o9, o10] ∧
      Kq d t H H' ∧ Dr ns c d H' ∧ Tally t k' H' ∧ k0 + i ≤ k' ∧ k' ≤ max k0 B + i ∧ H' L = some (.lst vs) ∧ All2 (ItAt (TAt n) (New HL H')) vs l ∧ (∀ x ∈ l, okItem (okT n) x) ∧ cItems (cT n) l ≤ room ∧ l.length ≤ i ∧ (1 ≤ i → l ≠ []) ∧ ((l.map (wItem (wT n))).flatten).length + 5 * min i 1 ≤ 8 * (k' - k0))
      ⟨[], [], k0, _, _, _, _, _, rfl, kq1, hD1, hT1, by omega, by omega, gL1, ⟨rfl, by decide, (fun k v x h => by cases h)⟩, (fun x h => nomatch h), Nat.zero_le _, Nat.le_refl _, (fun z => absurd z (by decide)), Nat.zero_le _⟩ (fun i σ' H2 hi hJ => ?_) (fun σ' H2 hJ => ?_)
    · obtain ⟨l, vs, k', o6, o7, o8, o9, o10, rfl, kq, hD2, hT2, hk1, hk2, hL2, hAll, hok, hroom, hll, hne, hlen⟩ := hJ
      have hi4 : i < 4 := by omega
      have Hd : HL d ≠ none := hDL.some
      have Ht : HL t ≠ none := fun z => by rw [show HL t = _ from hTL] at z; cases z
      have HLL : HL L ≠ none := fun z => by rw [gL] at z; cases z
      walk_at "rd"
      refine ⟨.inl ⟨rfl, _, Evl.sq_of hT2⟩, ?_⟩
      walk_at "rd"
      refine ⟨t, _, _, rfl, rfl, hT2, by rw [List.length_replicate, sizeLine_eq]; omega, ?_⟩
      have hT3 : Tally t (k' + 1) (upd H2 t (.lst (List.replicate k' (.int 1) ++ [.int 1]))) := by
        unfold Tally
        rw [upd_same, List.replicate_succ']
      have kq3 : Kq d t H2 (upd H2 t (.lst (List.replicate k' (.int 1) ++ [.int 1]))) := .put
      have hD3 : Dr ns c d (upd H2 t (.lst (List.replicate k' (.int 1) ++ [.int 1]))) := hD2.mut tc td
      have hL3 : (upd H2 t (.lst (List.replicate k' (.int 1) ++ [.int 1]))) L = some (.lst vs) := by rw [upd_ne Lt]; exact hL2
      generalize upd H2 t (.lst (List.replicate k' (.int 1) ++ [.int 1])) = H3 at hT3 kq3 hD3 hL3 ⊢
      walk_at "rd"
      refine ⟨c, d, 4, ns, rfl, hD3, by decide, fun kd H4 kd0 kd1 kp4 hD4 => ?_⟩
      have kq4 := kq3.trans (Kq.pick kp4 hD4)
      have hT4 : Tally t (k' + 1) H4 := kp4 _ _ td hT3
      have hL4 := kp4 _ _ Ld hL3
      have hAll4 : All2 (ItAt (TAt n) (New HL H4)) vs l := ⟨hAll.1, hAll.2.1, fun a v x h1 h2 => (hAll.2.2 a v x h1 h2).ex (TAt.ex n) (new_keep (Grow.refl _) kq4 Hd Ht)⟩
      replace kq4 := kq.trans kq4
      clear hT3 kq3 hD3 hL3 hT2 hD2 hL2 hAll kp4 kp1
      walk_at "rd"
      let MidP : L2.St → Hp → Prop := fun σ' H' => ∃ (l2 : List (It (Rt.T n))) (vs2 : List V) (k2 : Nat) (o7 o8 o9 o10 : Option V), σ' = [some (.ref d), some (.int (room : Int)), some (.int (dp : Int)), some (.ref t), some (.ref L), some (.int ((cItems (cT n) l : Nat) : Int)), some (.int ((0 : Int) + (i : Int))), o7, o8, o9, o10] ∧
        Kq d t H H' ∧ Dr ns c d H' ∧ Tally t k2 H' ∧ k' + 1 ≤ k2 ∧ k2 ≤ max k0 B + (i + 1) ∧ H' L = some (.lst vs2) ∧ All2 (ItAt (TAt n) (New HL H')) vs2 l2 ∧ (∀ x ∈ l2, okItem (okT n) x) ∧ cItems (cT n) l2 ≤ room ∧ l2.length ≤ i + 1 ∧ l2 ≠ [] ∧ ((l2.map (wItem (wT n))).flatten).length + 5 ≤ 8 * (k2 - k0)
      have push : ∀ (H5 : Hp) (p : Addr) (it : It (Rt.T n)) (o : HO) (k2 : Nat) (o7 o8 o9 o10 : Option V), Kq d t H H5 → Dr ns c d H5 → Tally t k2 H5 → H5 L = some (.lst vs) → All2 (ItAt (TAt n) (New HL H5)) vs l → H5 p = none → (∀ H6, Ex (New HL H5) (New HL H6) → New HL H6 p = some o → ItAt (TAt n) (New HL H6) (.ref p) it) →
          okItem (okT n) it → cItems (cT n) l + cItem (cT n) it ≤ room → k' + 1 ≤ k2 → k2 ≤ max k0 B + (i + 1) → (wItem (wT n) it).length + 8 * (k' + 1) ≤ 8 * k2 + 3 →
          rAppend (.ref L) [.ref p] (upd H5 p o) fun _ H6 => MidP [some (.ref d), some (.int (room : Int)), some (.int (dp : Int)), some (.ref t), some (.ref L), some (.int ((cItems (cT n) l : Nat) : Int)), some (.int ((0 : Int) + (i : Int))), o7, o8, o9, o10] H6 := by
        intro H5 p it o k2 o7 o8 o9 o10 a1 a2 a3 a4 a5 a6 a7 a8 a9 a10 a11 a12
        have pL : p ≠ L := fun z => by rw [z, a4] at a6; cases a6
        have hpL : HL p = none := by rw [← hHL, upd_ne pL]; exact a1.1 p a6
        have hv : vs.length < 1000 := by have := hAll4.1; omega
        obtain ⟨b1, b2, b3, b4⟩ := add_item HLL hL Ld Lt Lc a1 a2 a3 a4 a5 hv a6 hpL a7
        refine ⟨L, vs, _, rfl, rfl, by rw [upd_ne (Ne.symm pL)]; exact a4, by rw [sizeLine_eq]; omega, ?_⟩
        have ec : cItems (cT n) (l ++ [it]) = cItems (cT n) l + cItem (cT n) it := by
          unfold cItems
          rw [List.map_append, List.sum_append]
          rfl
        refine ⟨l ++ [it], vs ++ [.ref p], k2, o7, o8, o9, o10, rfl, b1, b2, b3, a10, a11, upd_same, b4, fun x hx => ?_, by rw [ec]; exact a9, by rw [List.length_append]; show _ + 1 ≤ _; omega, by simp, ?_⟩
        · rcases List.mem_append.mp hx with z | z
          · exact hok x z
          · have : x = it := by simpa using z
            rw [this]; exact a8
        · rw [List.map_append, List.flatten_append, List.length_append]
          have e1 : ([it].map (wItem (wT n))).flatten = wItem (wT n) it := by simp
          rw [e1]
          have : 5 * min i 1 ≥ 0 := Nat.zero_le _
          omega
      refine r_cut (Mid := MidP) ?_ ?_
      · have hT4' : H4 t = some (.lst (List.replicate (k' + 1) (.int 1))) := hT4
        refine r_ifAll (decide (1 < (room : Int) - ((cItems (cT n) l : Nat) : Int)) && (decide (kd = 3) && (decide ((dp : Int) < 4) && decide (((k' + 1 : Nat) : Int) < 40)))) (fun Q2 hq => ?_) (fun hb => ?_) (fun hb => ?_)
        · walk_at "rd"
          refine r_ite (fun h1 => ?_) (fun h1 => ?_)
          · rw [decide_eq_true h1, Bool.true_and] at hq
            walk_at "rd"
            refine r_ite (fun h2 => ?_) (fun h2 => ?_)
            · rw [decide_eq_true h2, Bool.true_and] at hq
              walk_at "rd"
              refine r_ite (fun h3 => ?_) (fun h3 => ?_)
              · rw [decide_eq_true h3, Bool.true_and] at hq
                walk_at "rd"
                rw [List.length_replicate]
                exact hq
              · rw [decide_eq_false h3, Bool.false_and] at hq
                exact hq
            · rw [decide_eq_false h2, Bool.false_and] at hq
              exact hq
          · rw [decide_eq_false h1, Bool.false_and] at hq
            exact hq
        · obtain ⟨g1, hb⟩ := Bool.and_eq_true_iff.mp hb
          obtain ⟨g2, hb⟩ := Bool.and_eq_true_iff.mp hb
          obtain ⟨g3, g4⟩ := Bool.and_eq_true_iff.mp hb
          replace g1 := of_decide_eq_true g1
          replace g3 := of_decide_eq_true g3
          replace g4 := of_decide_eq_true g4
          walk_at "rd"
          refine ⟨_, _, rfl, ?_⟩
          walk_at "rd"
          refine ⟨c, d, _, ns, rfl, hD4, by split <;> omega, fun pk H5 pk0 pk1 kp5 hD5 => ?_⟩
          obtain ⟨pn, rfl⟩ : ∃ pn : Nat, pk = pn := ⟨pk.toNat, by omega⟩
          have pn1 : pn ≤ 2 ∧ (2 + pn : Int) ≤ (room : Int) - ((cItems (cT n) l : Nat) : Int) := by
            rcases pk1 with z | z
            · split at z <;> omega
            · omega
          have kq5 := Kq.pick (t := t) kp5 hD5
          have hT5 : Tally t (k' + 1) H5 := kp5 _ _ td hT4
          have hL5 := kp5 _ _ Ld hL4
          have dv : CDivW ((room : Int) - ((cItems (cT n) l : Nat) : Int)) (2 + (pn : Int)) := wide_div (b := 10) (by omega) (by omega) (by decide) (by decide)
          have eD : ((room : Int) - ((cItems (cT n) l : Nat) : Int)) / (2 + (pn : Int)) = (((room - cItems (cT n) l) / (2 + pn) : Nat) : Int) := by
            rw [show (room : Int) - ((cItems (cT n) l : Nat) : Int) = ((room - cItems (cT n) l : Nat) : Int) by omega, show (2 + (pn : Int)) = ((2 + pn : Nat) : Int) by omega, ← Int.natCast_ediv]
          have lf1 : 1 ≤ (room - cItems (cT n) l) / (2 + pn) := Nat.div_pos (by omega) (by omega)
          have lf2 : (2 + pn) * ((room - cItems (cT n) l) / (2 + pn)) ≤ room - cItems (cT n) l := Nat.mul_div_le _ _
          have lf3 : (room - cItems (cT n) l) / (2 + pn) ≤ room - cItems (cT n) l := Nat.div_le_self _ _
          generalize (room - cItems (cT n) l) / (2 + pn) = lf at eD lf1 lf2 lf3
          have grw : Grow HL H5 := fun b hb => by
            have nL : b ≠ L := fun z => by rw [z, hL5] at hb; cases hb
            rw [← hHL, upd_ne nL]
            exact (kq4.trans kq5).1 b hb
          walk_at "rd"
          refine ⟨.inl ⟨rfl, _, Evl.sq_of hL5⟩, ?_⟩
          walk_at "rd"
          rw [eD]
          refine ⟨c, d, t, lf, dp + 1, k' + 1, ns, by rw [Int.natCast_add]; rfl, hD5, hT5, td, tc, lf1, by omega, by omega, by omega, by omega, fun y x k2 H6 M hx okx cx lx k2lt k2le => ?_⟩
          have hL6 := M.kq.2 _ _ Ld Lt hL5
          have kqA := kq5.trans M.kq
          have hAll6 : All2 (ItAt (TAt n) (New HL H6)) vs l := ⟨hAll4.1, hAll4.2.1, fun a v x h1 h2 => (hAll4.2.2 a v x h1 h2).ex (TAt.ex n) (new_keep (Grow.refl _) kqA Hd Ht)⟩
          have hx2 : TAt n (New HL H6) y x := TAt.ex n _ _ _ _ (new_keep (H' := H6) (H2 := H6) (H := H5) grw (Kq.refl d t H6) (fun z => Hd (grw _ z)) (fun z => Ht (grw _ z))) hx
          walk_at "rd"
          refine ⟨small (by show 2 ≤ 1000000; decide), fun p hp => ?_⟩
          walk_at "rd"
          refine push H6 p (2 + pn, .inr x) _ k2 _ _ _ _ (kq4.trans kqA) M.dr M.tl hL6 hAll6 hp (fun H7 e7 h => ⟨p, rfl, y, ?_, TAt.ex n _ _ _ _ e7 hx2⟩) ⟨by show 2 ≤ 2 + pn; omega, by show 2 + pn ≤ 24; omega, okx⟩ ?_ M.le ?_ ?_
          · show New HL H7 p = some (.tup [.int ((2 + pn : Nat) : Int), y])
            rw [h, Int.natCast_add]
            rfl
          · show cItems (cT n) l + max 1 (2 + pn) * cT n x ≤ room
            have : max 1 (2 + pn) * cT n x ≤ (2 + pn) * lf := by
              rw [Nat.max_eq_right (by omega)]
              exact Nat.mul_le_mul_left _ cx
            omega
          · have hB : B = 40 + 4 * (4 - dp) := rfl
            omega
          · have hD2 : (digs (2 + pn)).length ≤ 2 := by unfold digs; split <;> simp
            have : (wItem (wT n) (2 + pn, .inr x)).length ≤ (wT n x).length + 4 := by
              show ((if 0 < 2 + pn then digs (2 + pn) else []) ++ (40 :: (wT n x ++ [41]))).length ≤ _
              rw [if_pos (by omega), List.length_append, List.length_cons, List.length_append]
              show _ + (_ + 1 + 1) ≤ _
              omega
            omega
        · refine r_ifAll (decide (1 < (room : Int) - ((cItems (cT n) l : Nat) : Int)) && decide (kd = 2)) (fun Q2 hq => ?_) (fun hb2 => ?_) (fun hb2 => ?_)
          · walk_at "rd"
            refine r_ite (fun h1 => ?_) (fun h1 => ?_)
            · rw [decide_eq_true h1, Bool.true_and] at hq
              walk_at "rd"
              exact hq
            · rw [decide_eq_false h1, Bool.false_and] at hq
              exact hq
          · have hb1 : 1 < (room : Int) - ((cItems (cT n) l : Nat) : Int) := of_decide_eq_true (Bool.and_eq_true_iff.mp hb2).1
            walk_at "rd"
            refine ⟨.inl ⟨rfl, _, Evl.sq_of hL4⟩, ?_⟩
            walk_at "rd"
            refine ⟨_, _, rfl, ?_⟩
            walk_at "rd"
            refine ⟨c, d, _, ns, rfl, hD4, by split <;> omega, fun pk H5 pk0 pk1 kp5 hD5 => ?_⟩
            walk_at "rd"
            refine ⟨c, d, ns, rfl, hD5, fun ch H6 hch kp6 hD6 => ?_⟩
            have kq6 := (Kq.pick (t := t) kp5 hD5).trans (Kq.pick kp6 hD6)
            have hT6 : Tally t (k' + 1) H6 := kp6 _ _ td (kp5 _ _ td hT4)
            have hL6 := kp6 _ _ Ld (kp5 _ _ Ld hL4)
            have hAll6 : All2 (ItAt (TAt n) (New HL H6)) vs l := ⟨hAll4.1, hAll4.2.1, fun a v x h1 h2 => (hAll4.2.2 a v x h1 h2).ex (TAt.ex n) (new_keep (Grow.refl _) kq6 Hd Ht)⟩
            obtain ⟨pn, rfl⟩ : ∃ pn : Nat, pk = pn := ⟨pk.toNat, by omega⟩
            have pn1 : pn ≤ 22 ∧ (2 + pn : Int) ≤ (room : Int) - ((cItems (cT n) l : Nat) : Int) := by
              rcases pk1 with z | z
              · split at z <;> omega
              · omega
            walk_at "rd"
            refine ⟨small (by show 2 ≤ 1000000; decide), fun p hp => ?_⟩
            walk_at "rd"
            refine push H6 p (2 + pn, .inl ch) _ (k' + 1) _ _ _ _ (kq4.trans kq6) hD6 hT6 hL6 hAll6 hp (fun H7 _ h => ⟨p, rfl, ?_⟩) ⟨hch, .inr ⟨by show 2 ≤ 2 + pn; omega, by show 2 + pn ≤ 24; omega⟩⟩ ?_ (Nat.le_refl _) (by omega) ?_
            · show New HL H7 p = some (.tup [.int ((2 + pn : Nat) : Int), .str (S [ch])])
              rw [h, Int.natCast_add]
              rfl
            · show cItems (cT n) l + max 1 (2 + pn) * 1 ≤ room
              omega
            · have hD2 : (digs (2 + pn)).length ≤ 2 := by unfold digs; split <;> simp
              have : (wItem (wT n) (2 + pn, .inl ch)).length ≤ 3 := by
                show ((if 0 < 2 + pn then digs (2 + pn) else []) ++ [ch]).length ≤ 3
                rw [if_pos (by omega), List.length_append]
                show _ + 1 ≤ 3
                omega
              omega
          · refine r_ifAll (decide (0 < (room : Int) - ((cItems (cT n) l : Nat) : Int))) (fun Q2 hq => ?_) (fun hb3 => ?_) (fun hb3 => ?_)
            · walk_at "rd"
              exact hq
            · have hb3' : 0 < (room : Int) - ((cItems (cT n) l : Nat) : Int) := of_decide_eq_true hb3
              walk_at "rd"
              refine ⟨.inl ⟨rfl, _, Evl.sq_of hL4⟩, ?_⟩
              walk_at "rd"
              refine ⟨c, d, ns, rfl, hD4, fun ch H6 hch kp6 hD6 => ?_⟩
              have kq6 := (Kq.pick (t := t) kp6 hD6)
              have hT6 : Tally t (k' + 1) H6 := kp6 _ _ td hT4
              have hL6 := kp6 _ _ Ld hL4
              have hAll6 : All2 (ItAt (TAt n) (New HL H6)) vs l := ⟨hAll4.1, hAll4.2.1, fun a v x h1 h2 => (hAll4.2.2 a v x h1 h2).ex (TAt.ex n) (new_keep (Grow.refl _) kq6 Hd Ht)⟩
              walk_at "rd"
              refine ⟨small (by show 2 ≤ 1000000; decide), fun p hp => ?_⟩
              walk_at "rd"
              refine push H6 p (0, .inl ch) _ (k' + 1) _ _ _ _ (kq4.trans kq6) hD6 hT6 hL6 hAll6 hp (fun H7 _ h => ⟨p, rfl, h⟩) ⟨hch, .inl rfl⟩ ?_ (Nat.le_refl _) (by omega) ?_
              · show cItems (cT n) l + max 1 0 * 1 ≤ room
                omega
              · show 1 + 8 * (k' + 1) ≤ 8 * (k' + 1) + 3
                omega
            · have hb3' : ¬ 0 < (room : Int) - ((cItems (cT n) l : Nat) : Int) := of_decide_eq_false hb3
              walk_at "rd"
              refine ⟨l, vs, k' + 1, _, _, _, _, rfl, kq4, hD4, hT4, Nat.le_refl _, by omega, hL4, hAll4, hok, hroom, by omega, fun z => ?_, by have : 5 * min i 1 ≥ 0 := Nat.zero_le _; omega⟩
              subst z
              have : cItems (cT n) ([] : List (It (Rt.T n))) = 0 := rfl
              omega
      · intro σ' H5 hM
        obtain ⟨l2, vs2, k2, o7, o8, o9, o10, rfl, kq5, hD5, hT5, hk, hk', hL5, hAll5, hok5, hroom5, hll5, hne5, hlen5⟩ := hM
        have big : 24 < 2 ^ 8500 := Nat.lt_of_lt_of_le (by decide : 24 < 2 ^ 5) (Nat.pow_le_pow_right (by decide) (by decide))
        have hlen' : vs2.length = l2.length := hAll5.1
        walk_at "rd"
        refine lcL (xs := vs2) (fun D i acc H2 => Ex H5 H2 ∧ acc = ((l2.take i).map fun i => ((cItem (cT n) i : Nat) : Int)).map V.int) (fun _ => rfl) (fun D hD => ⟨Evl.Ex.new hD, rfl⟩) (fun D i H2 acc hD hJ => Evl.sq_of (hJ.1 _ _ hL5))
          (fun D i x H2 acc hD hx e2 hl2 hJ => ?_) (fun D H2 acc hD e2 hJ => ?_)
        · obtain ⟨ex, rfl⟩ := hJ
          have hi := lt_of_get hx
          have hy : l2[i]? = some l2[i] := List.getElem?_eq_getElem (by omega)
          have hm : l2[i] ∈ l2 := List.getElem_mem _
          have hit := hAll5.2.2 i x l2[i] hx hy
          walk_at "rd"
          refine ⟨x, l2[i], rfl, (hit.ex (TAt.ex n) new_sub).ex (TAt.ex n) ex, hok5 _ hm, Nat.lt_of_le_of_lt (Nat.le_trans (mem_le hm) (Nat.le_trans hroom5 r24)) big, fun H3 ex3 => ?_⟩
          refine lc_end (by omega) hl2 (ex3 _ _ e2) ⟨(ex.trans ex3).mut hD, ?_⟩
          rw [take_snoc hy, List.map_append, List.map_append]
          rfl
        · obtain ⟨ex, rfl⟩ := hJ
          rw [List.take_of_length_le (by omega)] at e2
          walk_at "rd"
          rw [sum_cast]
          refine ⟨l2, vs2, k2, _, _, _, _, _, rfl, kq5.trans (Kq.of ex), hD5.ex' ex, ex _ _ hT5, by omega, hk', ex _ _ hL5, ⟨hAll5.1, hAll5.2.1, fun a v x h1 h2 => (hAll5.2.2 a v x h1 h2).ex (TAt.ex n) (new_keep (Grow.refl _) (Kq.of ex) Hd Ht)⟩, hok5, hroom5, hll5, fun _ => hne5, ?_⟩
          rw [show min (i + 1) 1 = 1 by omega]
          exact hlen5
    · obtain ⟨l, vs, k', o6, o7, o8, o9, o10, rfl, kq, hD2, hT2, hk1, hk2, hL2, hAll, hok, hroom, hll, hne, hlen⟩ := hJ
      have Hd : HL d ≠ none := hDL.some
      have Ht : HL t ≠ none := fun z => by rw [show HL t = _ from hTL] at z; cases z
      have mm : (1 + m).toNat ≤ 4 := by omega
      have m1' : 1 ≤ (1 + m).toNat := by omega
      have hmin : min (1 + m).toNat 1 = 1 := by omega
      rw [hmin] at hlen
      have fin : ∀ (H3 : Hp) (p : Addr) (fill : Nat), Kq d t H2 H3 → Dr ns c d H3 → Tally t k' H3 → H3 L = some (.lst vs) → H3 p = none → (fill = 0 ∨ cItems (cT n) l ≤ fill ∧ fill ≤ room) → Q (.ref p) (upd H3 p (.tup [.ref L, .int (fill : Int)])) := by
        intro H3 p fill a1 a2 a3 a4 a5 a6
        have pL : p ≠ L := fun z => by rw [z, a4] at a5; cases a5
        have hH3 : H p = none := (kq.trans a1).1 p a5
        have hpL : HL p = none := by rw [← hHL, upd_ne pL]; exact hH3
        have ex := Evl.Ex.new (o := .tup [.ref L, .int (fill : Int)]) a5
        have kqF : Kq d t H (upd H3 p (.tup [.ref L, .int (fill : Int)])) := (kq.trans a1).trans (Kq.of ex)
        have sub : Ex (New HL H2) (New H (upd H3 p (.tup [.ref L, .int (fill : Int)]))) := new_keep (Grow.ex exL) (a1.trans (Kq.of ex)) Hd Ht
        refine q _ (l, fill) k' _ ⟨kqF, a2.ex' ex, ex _ _ a3, by omega⟩ ⟨p, L, vs, rfl, new_get hH3 upd_same, new_get hL (ex _ _ a4), hAll.1, hAll.2.1, fun a v x h1 h2 => (hAll.2.2 a v x h1 h2).ex (TAt.ex n) sub⟩ ⟨hne m1', hok, ?_⟩ ?_ ?_ (by omega) ?_
        · rcases a6 with z | z
          · exact .inl z
          · exact .inr ⟨z.1, by show fill ≤ 24; omega⟩
        · unfold cPart
          split
          · rcases a6 with z | z
            · have z' : fill = 0 := z
              show fill ≤ room
              omega
            · exact z.2
          · exact hroom
        · exact hlen
        · have hB : B = 40 + 4 * (4 - dp) := rfl
          omega
      walk_at "rd"
      refine ⟨c, d, 4, ns, rfl, hD2, by decide, fun z H3 z0 z1 kp3 hD3 => ?_⟩
      have kq3 := Kq.pick (t := t) kp3 hD3
      have hT3 : Tally t k' H3 := kp3 _ _ td hT2
      have hL3 := kp3 _ _ Ld hL2
      walk_at "rd"
      refine r_ite (fun h => ?_) (fun h => ?_)
      · walk_at "rd"
        refine ⟨c, d, _, ns, rfl, hD3, by omega, fun pk H4 pk0 pk1 kp4 hD4 => ?_⟩
        obtain ⟨pn, rfl⟩ : ∃ pn : Nat, pk = pn := ⟨pk.toNat, by omega⟩
        walk_at "rd"
        refine ⟨small (by show 2 ≤ 1000000; decide), fun p hp => ?_⟩
        rw [← Int.natCast_add]
        exact fin H4 p _ (kq3.trans (Kq.pick kp4 hD4)) hD4 (kp4 _ _ td hT3) (kp4 _ _ Ld hL3) hp (.inr ⟨by omega, by omega⟩)
      · walk_at "rd"
        refine ⟨small (by show 2 ≤ 1000000; decide), fun p hp => ?_⟩
        exact fin H3 p 0 kq3 hD3 hT3 hL3 hp (.inl rfl)
end
end Fk

set_option Elab.async false
set_option linter.all false
set_option maxRecDepth 100000
set_option maxHeartbeats 4000000
namespace Fk
open PySem PySem.Spec PyProof.Rows L2 Fg Rt
local macro_rules | `(tactic| walk_at "rd1") => `(tactic| first
  | with_reducible refine r_seq ?_
  | with_reducible refine r_asg ?_
  | with_reducible refine r_gname ?_
  | with_reducible refine r_gsub ?_
  | with_reducible refine r_ret ?_
  | with_reducible refine r_retN ?_
  | with_reducible refine r_next ?_
  | with_reducible refine r_drop ?_
  | with_reducible refine r_ifS ?_
  | with_reducible refine r_if ?_
  | with_reducible refine r_par ?_
  | with_reducible refine r_pair ?_
  | with_reducible refine r_test ?_
  | with_reducible refine r_tB ?_
  | with_reducible refine r_not ?_
  | with_reducible refine r_and ?_
  | with_reducible refine r_or ?_
  | with_reducible refine r_andV ?_
  | with_reducible refine r_orV ?_
  | with_reducible refine r_notV ?_
  | with_reducible refine r_nil ?_
  | with_reducible refine r_cons ?_
  | with_reducible refine r_call ?_
  | with_reducible refine r_callS ?_
  | with_reducible refine r_cb ?_
  | with_reducible refine r_then ?_
  | with_reducible refine r_tup ?_
  | with_reducible refine r_lst ?_
  | with_reducible refine r_sl ?_
  | with_reducible refine r_nopart ?_
  | with_reducible refine r_part ?_
  | with_reducible refine r_lcR1 ?_
  | with_reducible refine r_lcR2 ?_
  | with_reducible refine r_lcL ?_
  | with_reducible refine r_lcT ?_
  | with_reducible refine r_forR1 ?_
  | with_reducible refine r_forR2 ?_
  | with_reducible refine r_forL ?_
  | with_reducible refine r_forT ?_
  | with_reducible refine r_forE ?_
  | with_reducible refine r_strE ?_
  | ((with_reducible refine r_rng1 ?hc ?_); (case hc => omega))
  | ((with_reducible refine r_rng2 ?hc ?_); (case hc => omega))
  | ((with_reducible refine' r_refL ?hc ?_); (case hc => first | assumption | exact Evl.sq_of (by assumption)))
  | ((with_reducible refine' r_refT ?hc ?_); (case hc => first | assumption | exact Evl.st_of (by assumption)))
  | with_reducible refine r_op ?_
  | with_reducible refine r_un ?_
  | with_reducible refine r_chain ?_
  | ((with_reducible refine' r_var ?hv ?_); (case hv => exact rfl))
  | with_reducible refine r_cS ?_
  | with_reducible refine r_cs ?_
  | with_reducible refine r_c ?_
  | with_reducible refine r_yes ?_
  | with_reducible refine r_bm ?_
  | with_reducible refine r_bl ?_
  | with_reducible refine r_in ?_
  | with_reducible refine r_ty ?_
  | with_reducible refine r_I0 ?_
  | ((with_reducible refine r_I ?hc ?_); (case hc => first | assumption | (show (0 : Int) < _; decide) | exact Or.inr ⟨by decide, by decide⟩ | exact Or.inr ⟨by omega, by omega⟩ | exact Or.inl ⟨by decide, by decide⟩ | exact (show CDivW _ _ from ⟨by decide, by decide +kernel⟩) | exact (show CPowW _ _ from ⟨by decide, by decide +kernel⟩) | (show (0 : Int) < _; omega)))
  | with_reducible refine r_U ?_
  | with_reducible refine r_eqI ?_
  | with_reducible refine r_neI ?_
  | with_reducible refine r_eqS ?_
  | with_reducible refine r_neS ?_
  | with_reducible refine r_eqB ?_
  | with_reducible refine r_neB ?_
  | with_reducible refine r_niS ?_
  | with_reducible refine r_inSS ?_
  | ((with_reducible refine r_slSS ?hc ?_); (case hc => first | exact small (by omega) | exact small (by simp; omega)))
  | ((with_reducible refine r_lenS ?hc ?_); (case hc => first | exact small (by omega) | exact small (by simp; omega)))
  | ((with_reducible refine' r_lenL ?hc ?_); (case hc => first | assumption | exact Evl.sq_of (by assumption)))
  | ((with_reducible refine' r_lenT ?hc ?_); (case hc => first | assumption | exact Evl.st_of (by assumption)))
  | ((with_reducible refine' r_ixL ?h1 ?h2 ?h3 ?_); (case h1 => first | assumption | exact Evl.sq_of (by assumption) | exact Evl.sq_of upd_same); (case h2 => first | decide | omega); (case h3 => first | exact rfl | assumption))
  | ((with_reducible refine' r_ixT ?h1 ?h2 ?h3 ?_); (case h1 => first | assumption | exact Evl.st_of (by assumption)); (case h2 => first | decide | omega); (case h3 => first | exact rfl | assumption))
  | with_reducible refine r_T ?_
  | with_reducible refine r_notNn ?_
  | with_reducible refine r_notN_int ?_
  | with_reducible refine r_notN_str ?_
  | with_reducible refine r_notN_ref ?_
  | with_reducible refine r_isNn ?_
  | with_reducible refine r_isN_int ?_
  | with_reducible refine r_isN_str ?_
  | with_reducible refine r_isN_ref ?_
  | ((with_reducible refine' r_isi ?ht ?hk ?_); (case ht => first | exact .base (.int _) | exact .base (.bl _) | exact .base (.str _) | exact .base .non | exact .base (.lst (by assumption)) | exact .base (.tup (by assumption))); (case hk => first | exact kb_int_int | exact kb_int_bool | exact kb_int_str | exact kb_int_list | exact kb_int_tuple | exact kb_bool_int | exact kb_bool_bool | exact kb_bool_str | exact kb_bool_list | exact kb_bool_tuple | exact kb_str_int | exact kb_str_bool | exact kb_str_str | exact kb_str_list | exact kb_str_tuple | exact kb_NoneType_int | exact kb_NoneType_bool | exact kb_NoneType_str | exact kb_NoneType_list | exact kb_NoneType_tuple | exact kb_list_int | exact kb_list_bool | exact kb_list_str | exact kb_list_list | exact kb_list_tuple | exact kb_tuple_int | exact kb_tuple_bool | exact kb_tuple_str | exact kb_tuple_list | exact kb_tuple_tuple))
  | with_reducible refine r_F ?_
  | with_reducible refine r_nT ?_
  | with_reducible refine r_nF ?_
  | with_reducible refine r_mko ?_
  | with_reducible refine r_xf ?_
  | ((with_reducible refine' r_sum ?hc ?_); (case hc => first | assumption | exact Evl.sq_of (by assumption)))
  | ((with_reducible refine' r_setL ?h1 ?h2 ?h3 ?_); (case h1 => first | assumption | exact upd_same); (case h2 => first | decide | omega); (case h3 => first | (show _ < _; decide) | (simp; done)))
  | with_reducible refine r_int ?_
  | with_reducible refine r_abs ?_)
local macro_rules | `(tactic| walk_at "rd") => `(tactic| repeat (walk_at "rd1"))

section
variable {P : Program} {w : World} {K : PySem.W.Frag} {mg : Str → Option Value} {base : Heap}
/-! ### something more at the end of a list -/
theorem All2.map {α : Type} {R R' : V → α → Prop} {vs : List V} {xs : List α} (h : All2 R vs xs) (e : ∀ v x, R v x → R' v x) : All2 R' vs xs := ⟨h.1, h.2.1, fun k v x a b => e v x (h.2.2 k v x a b)⟩
theorem All2.snoc {α : Type} {R : V → α → Prop} {vs : List V} {xs : List α} (h : All2 R vs xs) (hv : vs.length < 1000) {v : V} {x : α} (hx : R v x) : All2 R (vs ++ [v]) (xs ++ [x]) := by
  refine ⟨by rw [List.length_append, List.length_append, h.1]; rfl, by rw [List.length_append]; show _ + 1 ≤ 1000; omega, fun k v' x' h1 h2 => ?_⟩
  by_cases e : k < vs.length
  · rw [List.getElem?_append_left e] at h1
    rw [List.getElem?_append_left (by rw [← h.1]; exact e)] at h2
    exact h.2.2 k v' x' h1 h2
  · rw [List.getElem?_append_right (by omega)] at h1
    rw [List.getElem?_append_right (by rw [← h.1]; omega)] at h2
    have ek : k - vs.length = 0 := by
      rcases Nat.eq_zero_or_pos (k - vs.length) with z | z
      · exact z
      · rw [List.getElem?_eq_none (by show 1 ≤ _; omega)] at h1; cases h1
    rw [ek] at h1
    rw [← h.1, ek] at h2
    cases h1
    cases h2
    exact hx
theorem new_put {HL H5 : Hp} {L : Addr} {o : HO} (HLL : HL L ≠ none) : Ex (New HL H5) (New HL (upd H5 L o)) := fun b u h => by
  obtain ⟨h1, h2⟩ := new_some h
  have nL : b ≠ L := fun z => HLL (by rw [← z]; exact h1)
  exact new_get h1 (by rw [upd_ne nL]; exact h2)
theorem Kq.upd {d t L : Addr} {H H5 : Hp} {o : HO} (kq : Kq d t H H5) (hLH : H L = none) : Kq d t H (L2.upd H5 L o) := by
  refine ⟨fun b hb => ?_, fun b u n1 n2 h => ?_⟩
  · by_cases e : b = L
    · rw [e]; exact hLH
    · rw [upd_ne e] at hb
      exact kq.1 b hb
  · have nL : b ≠ L := fun z => by rw [z, hLH] at h; cases h
    rw [upd_ne nL]
    exact kq.2 b u n1 n2 h
theorem add_any {α : Type} {R : Hp → V → α → Prop} (hR : ∀ H H' v x, Ex H H' → R H v x → R H' v x) {HL H H5 : Hp} {ns : List Int} {c d t L : Addr} {vs : List V} {l : List α} {k2 : Nat} {y : V} {x : α} (HLL : HL L ≠ none) (hLH : H L = none) (Ld : L ≠ d) (Lt : L ≠ t) (Lc : L ≠ c) (kq : Kq d t H H5) (hD : Dr ns c d H5) (hT : Tally t k2 H5)
    (hA : All2 (R (New HL H5)) vs l) (hv : vs.length < 1000) (hy : R (New HL H5) y x) :
    Kq d t H (upd H5 L (.lst (vs ++ [y]))) ∧ Dr ns c d (upd H5 L (.lst (vs ++ [y]))) ∧ Tally t k2 (upd H5 L (.lst (vs ++ [y]))) ∧ All2 (R (New HL (upd H5 L (.lst (vs ++ [y]))))) (vs ++ [y]) (l ++ [x]) :=
  ⟨kq.upd hLH, hD.mut Lc Ld, by unfold Tally; rw [upd_ne (Ne.symm Lt)]; exact hT, (hA.snoc hv hy).map fun v x h => hR _ _ _ _ (new_put HLL) h⟩
theorem wText_snoc {α : Type} {w : α → List Nat} (q : Pt α) : ∀ ps : Tx α, ps ≠ [] → wText w (ps ++ [q]) = wText w ps ++ 38 :: wPart w q
  | [], h => absurd rfl h
  | [p], _ => rfl
  | p :: p2 :: r, _ => by
    show wPart w p ++ 38 :: wText w (p2 :: r ++ [q]) = (wPart w p ++ 38 :: wText w (p2 :: r)) ++ 38 :: wPart w q
    rw [wText_snoc q (p2 :: r) (by simp), List.append_assoc]
    rfl
theorem digs_len (t : Nat) : (digs t).length ≤ 2 := by unfold digs; split <;> simp
theorem wPart_len {α : Type} {w : α → List Nat} (l : List (It α)) (f : Nat) : (wPart w (l, f)).length ≤ ((l.map (wItem w)).flatten).length + 3 := by
  show ((l.map (wItem w)).flatten ++ (if 0 < f then 64 :: digs f else [])).length ≤ _
  rw [List.length_append]
  have := digs_len f
  split
  · rw [List.length_cons]; omega
  · exact Nat.le_add_right _ _
def divs (m : Nat) : Nat → List Nat
  | 0 => []
  | i + 1 => divs m i ++ (if m % (i + 1) = 0 then [i + 1] else [])
theorem divs_mem {m : Nat} : ∀ {i x : Nat}, x ∈ divs m i → 1 ≤ x ∧ x ≤ i ∧ m % x = 0
  | 0, x, h => nomatch h
  | i + 1, x, h => by
    rcases List.mem_append.mp h with z | z
    · have := divs_mem z
      exact ⟨this.1, by omega, this.2.2⟩
    · split at z
      · have e : x = i + 1 := by simpa using z
        subst e
        exact ⟨by omega, by omega, by assumption⟩
      · cases z
theorem divs_pos {m : Nat} : ∀ {i : Nat}, 1 ≤ i → 1 ≤ (divs m i).length
  | 1, _ => by
    show 1 ≤ (divs m 0 ++ (if m % 1 = 0 then [1] else [])).length
    rw [if_pos (Nat.mod_one m)]
    exact Nat.le_refl _
  | i + 2, _ => by
    have := divs_pos (m := m) (i := i + 1) (by omega)
    show 1 ≤ (divs m (i + 1) ++ _).length
    rw [List.length_append]
    omega
theorem divs_len {m : Nat} : ∀ {i : Nat}, (divs m i).length ≤ i
  | 0 => Nat.le_refl _
  | i + 1 => by
    have := divs_len (m := m) (i := i)
    show (divs m i ++ (if m % (i + 1) = 0 then [i + 1] else [])).length ≤ i + 1
    rw [List.length_append]
    split
    · show _ + 1 ≤ _; omega
    · show _ + 0 ≤ _; omega
theorem part_len {n : Nat} {l : List (It (T n))} {f s : Nat} (ok : okPart (okT n) (cT n) (l, f)) (h : cPart (cT n) (l, f) ≤ s) : cItems (cT n) l ≤ s := by
  have e : cPart (cT n) (l, f) = if 0 < f then f else cItems (cT n) l := rfl
  rw [e] at h
  have o : f = 0 ∨ cItems (cT n) l ≤ f ∧ f ≤ 24 := ok.2.2
  split at h <;> omega
abbrev s_l_room_text : Stmt := topS 41
abbrev N_l_room_text : List Str := ["_law_draw_here", "_law_room", "_law_depth", "_law_tally", "_law_parts", "_law_turn", "_law_many", "_law_shorts", "_law_short", "_law_number"]
theorem sc_l_room_text : FnScope ["_law_draw_here", "_law_room", "_law_depth", "_law_tally", "_law_parts", "_law_turn", "_law_many", "_law_shorts", "_law_short", "_law_number"] ["_law_draw_here", "_law_room", "_law_depth", "_law_tally"] (defScope s_l_room_text) := ⟨rfl, rfl, rfl, by decide +kernel, rfl, by decide +kernel, by decide +kernel⟩
theorem can_l_room_text (T : Bi mg) (F : Defd K mg "_law_room_text" s_l_room_text ["_law_draw_here", "_law_room", "_law_depth", "_law_tally"]) {n k j : Nat} (hk : 3 ≤ k) (hj : j ≤ k) (C_l_pick : Can P w K mg base L2.CX0 2 "_law_pick" ["_law_draw_here", "_law_many"] spPick) (C_l_count : Can P w K mg base L2.CX0 j "_law_count" ["_law_parts"] (spCount (n + 1))) (C_l_room_part : Can P w K mg base L2.CX0 k "_law_room_part" ["_law_draw_here", "_law_room", "_law_depth", "_law_tally"] (spRoomPart n)) : Can P w K mg base L2.CX0 (k + 1) "_law_room_text" ["_law_draw_here", "_law_room", "_law_depth", "_law_tally"] (spRoomText (n + 1)) := by
  refine can0 F sc_l_room_text (fun vs H Q E h => ?_) (fun f cdv A outer s H vs Q E hr h => ⟨_, (pss_cons (ps_set (i := 4) sc_l_room_text.nd rfl (by first | exact Or.inl rfl | exact Or.inr rfl) (pe_lst (pa_cons (pe_can C_l_room_part hr (by omega) rfl (pa_cons (pv 0) (pa_cons (pv 1) (pa_cons (pv 2) (pa_cons (pv 3) pa_nil))))) pa_nil)))
  (pss_cons (ps_for PassesOwn.never rfl (pi_range1 rfl T.b_range (pa_cons (pe_ix ix_list (pe_lst (pa_cons pe_int (pa_cons pe_int (pa_cons pe_int (pa_cons pe_int (pa_cons pe_int pa_nil)))))) (pe_can C_l_pick hr (by omega) rfl (pa_cons (pv 0) (pa_cons pe_int pa_nil))) (fun _ _ => rfl)) pa_nil)) (pg_name (i := 5) sc_l_room_text.nd rfl (by first | exact Or.inl rfl | exact Or.inr rfl))
    (pss_cons (ps_set (i := 6) sc_l_room_text.nd rfl (by first | exact Or.inl rfl | exact Or.inr rfl) (pe_can C_l_count hr (by omega) rfl (pa_cons (pv 4) pa_nil)))
  (pss_one (ps_if (PW.pt (pw_and (pt_cmpR op_lt (pe_callB call_lenQ (by rfl) T.b_len boot_len (pa_cons (pv 3) pa_nil)) pe_int (nomark _)) (pw_and1 (pt_cmpR op_eq (pe_can C_l_pick hr (by omega) rfl (pa_cons (pv 0) (pa_cons pe_int pa_nil))) pe_int (nomark _))))) (pss_cons (ps_setLc (i := 7) (own := [("_law_number", 9)]) (g := gName 9) rfl sc_l_room_text.nd rfl rfl (sw_true rfl rfl rfl (by decide +kernel)) (pi_range2 rfl T.b_range (pa_cons pe_int (pa_cons (pe_op op_add (pv 6) pe_int) pa_nil))) (blkOk_by (N := N_l_room_text) (sc := defScope s_l_room_text) (by decide +kernel)) (fun _ _ _ _ _ => pg_name (i := 9) sc_l_room_text.nd rfl (Or.inl rfl)) (fun _ _ _ _ _ => (pts_one (pt_cmpR op_eq (pe_op op_mod (pe_callTy call_intI (by rfl) T.b_int boot_int (pa_cons (pv 6) pa_nil)) (pv 9)) pe_int (nomark _)))) (fun _ _ _ _ _ => (pv 9)))
  (pss_cons (ps_set (i := 8) sc_l_room_text.nd rfl (by first | exact Or.inl rfl | exact Or.inr rfl) (pe_ix ix_list (pv 7) (pe_can C_l_pick hr (by omega) rfl (pa_cons (pv 0) (pa_cons (pe_callB call_lenQ (by rfl) T.b_len boot_len (pa_cons (pv 7) pa_nil)) pa_nil))) (fun _ _ => rfl)))
  (pss_one (ps_expr (pe_bm PySem.F.plainAttrs_list PySem.F.slot_list_append PySem.F.type_list_append mt_append (pv 4) (pa_cons (pe_tup (pa_cons (pe_ix ix_tup (pe_can C_l_room_part hr (by omega) rfl (pa_cons (pv 0) (pa_cons (pv 8) (pa_cons (pv 2) (pa_cons (pv 3) pa_nil))))) pe_int (fun _ _ => rfl)) (pa_cons (pv 8) pa_nil))) pa_nil)))))) (pss_one (ps_if (pt_cmpR op_lt (pe_callB call_lenQ (by rfl) T.b_len boot_len (pa_cons (pv 3) pa_nil)) pe_int (nomark _)) (pss_one (ps_expr (pe_bm PySem.F.plainAttrs_list PySem.F.slot_list_append PySem.F.type_list_append mt_append (pv 4) (pa_cons (pe_can C_l_room_part hr (by omega) rfl (pa_cons (pv 0) (pa_cons (pe_op op_fdivW (pv 1) (pv 6)) (pa_cons (pv 2) (pa_cons (pv 3) pa_nil))))) pa_nil)))) pss_nil))))))
  (pss_one (ps_ret (pv 4))))), ?_⟩)
  · obtain ⟨_, _, _, _, _, _, _, rfl, _⟩ := h
    rfl
  · obtain ⟨c, d, t, room, dp, k0, ns, rfl, hD, hT, td, tc, r1, r24, k500, hnd, hdp, q⟩ := h
    walk_at "rd"
    refine ⟨c, d, t, room, dp, k0, ns, rfl, hD, hT, td, tc, r1, r24, k500, by omega, fun v0 p0 k1 H1 M1 hp1 ok1 cp1 len1 k1lt k1le => ?_⟩
    walk_at "rd"
    refine ⟨small (by show 1 ≤ 1000000; decide), fun L hL => ?_⟩
    have hLH : H L = none := M1.kq.1 L hL
    have Hd : H d ≠ none := hD.some
    have Ht : H t ≠ none := fun z => by rw [show H t = _ from hT] at z; cases z
    have Ld : L ≠ d := hD.nd hLH
    have Lc : L ≠ c := hD.nc hLH
    have Lt : L ≠ t := fun z => Ht (by rw [← z]; exact hLH)
    have exL := Evl.Ex.new (o := .lst [v0]) hL
    have gL : (upd H1 L (.lst [v0])) L = some (.lst [v0]) := upd_same
    generalize upd H1 L (.lst [v0]) = H2 at exL gL ⊢
    obtain ⟨HL, hHL⟩ : ∃ HL, HL = upd H L (.lst []) := ⟨_, rfl⟩
    have HLL : HL L ≠ none := fun z => by rw [hHL, upd_same] at z; cases z
    have HLd : HL d ≠ none := by rw [hHL, upd_ne (Ne.symm Ld)]; exact Hd
    have HLt : HL t ≠ none := by rw [hHL, upd_ne (Ne.symm Lt)]; exact Ht
    have gHL : Grow H HL := by rw [hHL]; exact Grow.upd
    have kq2 : Kq d t H H2 := M1.kq.trans (Kq.of exL)
    have hD2 := M1.dr.ex' exL
    have hT2 : Tally t k1 H2 := exL _ _ M1.tl
    have sub1 : Ex (New H H1) (New HL H2) := fun b u h => by
      obtain ⟨a1, a2⟩ := new_some h
      have nL : b ≠ L := fun z => by rw [z, hL] at a2; cases a2
      exact new_get (by rw [hHL, upd_ne nL]; exact a1) (exL _ _ a2)
    have hp2 : PtAt (TAt n) (New HL H2) v0 p0 := hp1.ex (TAt.ex n) sub1
    obtain ⟨B, hB⟩ : ∃ B, B = 40 + 4 * (4 - dp) := ⟨_, rfl⟩
    walk_at "rd"
    refine ⟨small (by show 5 ≤ 1000000; decide), fun G hG => ?_⟩
    have exG := Evl.Ex.new (o := .lst [.int 0, .int 0, .int 0, .int 1, .int 2]) hG
    have gG : (upd H2 G (.lst [.int 0, .int 0, .int 0, .int 1, .int 2])) G = some (.lst [.int 0, .int 0, .int 0, .int 1, .int 2]) := upd_same
    have Gd : G ≠ d := hD2.nd hG
    generalize upd H2 G (.lst [.int 0, .int 0, .int 0, .int 1, .int 2]) = H3 at exG gG ⊢
    replace hD2 := hD2.ex' exG
    walk_at "rd"
    refine ⟨c, d, 5, ns, rfl, hD2, by decide, fun m H4 m0 m1 kp4 hD4 => ?_⟩
    have gG4 := kp4 _ _ Gd gG
    have kqX : Kq d t H2 H4 := (Kq.of exG).trans (Kq.pick kp4 hD4)
    have kq4 := kq2.trans kqX
    have hT4 : Tally t k1 H4 := kp4 _ _ td (exG _ _ hT2)
    have gL4 : H4 L = some (.lst [v0]) := kp4 _ _ Ld (exG _ _ gL)
    have gr2 : Grow HL H2 := fun b hb => by
      have nL : b ≠ L := fun z => by rw [z, gL] at hb; cases hb
      rw [hHL, upd_ne nL]
      exact kq2.1 b hb
    have hp4 : PtAt (TAt n) (New HL H4) v0 p0 := hp2.ex (TAt.ex n) (new_keep (Grow.refl _) kqX HLd HLt)
    obtain ⟨e, he, he2⟩ : ∃ e : Nat, ([.int 0, .int 0, .int 0, .int 1, .int 2] : List V)[m.toNat]? = some (.int (e : Int)) ∧ e ≤ 2 := by
      have m5 : m.toNat < 5 := by omega
      generalize m.toNat = a at m5
      match a, m5 with
      | 0, _ => exact ⟨0, rfl, by decide⟩
      | 1, _ => exact ⟨0, rfl, by decide⟩
      | 2, _ => exact ⟨0, rfl, by decide⟩
      | 3, _ => exact ⟨1, rfl, by decide⟩
      | 4, _ => exact ⟨2, rfl, by decide⟩
    walk_at "rd"
    refine forR (fun i σ' H' => ∃ (ps : List (Pt (Rt.T n))) (vs : List V) (k' : Nat) (o5 o6 o7 o8 o9 : Option V), σ' = [some (.ref d), some (.int (room : Int)), some (.int (dp : Int)), some (.ref t), some (.ref L), o5, o6, o7, o8, o9] ∧
      Kq d t H H' ∧ Dr ns c d H' ∧ Tally t k' H' ∧ k0 < k' ∧ k' ≤ max k0 B + 4 ∧ H' L = some (.lst vs) ∧ All2 (PtAt (TAt n) (New HL H')) vs ps ∧ (ps ≠ [] ∧ ∀ p ∈ ps, okPart (okT n) (cT n) p) ∧ cText (cT n) ps ≤ room ∧ ps.length ≤ i + 1 ∧ (wText (wT n) ps).length + 2 ≤ 8 * (k' - k0))
      ⟨[p0], [v0], k1, _, _, _, _, _, rfl, kq4, hD4, hT4, k1lt, by omega, gL4, ⟨rfl, by show 1 ≤ 1000; decide, fun k v x h1 h2 => ?_⟩, ⟨by simp, fun p hp => ?_⟩, ?_, Nat.le_refl _, ?_⟩ (fun i σ' H2 hi hJ => ?_) (fun σ' H2 hJ => ?_)
    · cases k with
      | zero => cases h1; cases h2; exact hp4
      | succ k => cases h1
    · have : p = p0 := by simpa using hp
      rw [this]; exact ok1
    · show Nat.lcm 1 (cPart (cT n) p0) ≤ room
      rw [Nat.lcm_one_left]
      exact cp1
    · obtain ⟨l0, f0⟩ := p0
      have := wPart_len (w := wT n) l0 f0
      have len1' : ((l0.map (wItem (wT n))).flatten).length + 5 ≤ 8 * (k1 - k0) := len1
      show (wPart (wT n) (l0, f0)).length + 2 ≤ _
      omega
    · obtain ⟨ps, vs, k', o5, o6, o7, o8, o9, rfl, kq, hD5, hT5, hk1, hk2, hL5, hAll, hok, hroom, hll, hlen⟩ := hJ
      have cm1 : 1 ≤ cText (cT n) ps := cText_pos (cT_pos n) ps hok.2
      have hvs : vs.length = ps.length := hAll.1
      walk_at "rd"
      refine ⟨.ref L, (show Rt.T (n + 1) from ps), rfl, ⟨L, vs, rfl, hL5, hAll.1, hAll.2.1, fun a v x h1 h2 => (hAll.2.2 a v x h1 h2).ex (TAt.ex n) new_sub⟩, hok, Nat.lt_of_le_of_lt (Nat.le_trans hroom r24) (Nat.lt_of_lt_of_le (by decide : 24 < 2 ^ 5) (Nat.pow_le_pow_right (by decide) (by decide))), fun H6 ex6 => ?_⟩
      have eC : cT (n + 1) (show Rt.T (n + 1) from ps) = cText (cT n) ps := rfl
      rw [eC]
      obtain ⟨cm, hcm⟩ : ∃ cm, cm = cText (cT n) ps := ⟨_, rfl⟩
      rw [← hcm]
      rw [← hcm] at cm1 hroom
      replace kq := kq.trans (Kq.of ex6)
      replace hD5 := hD5.ex' ex6
      replace hT5 : Tally t k' H6 := ex6 _ _ hT5
      replace hL5 := ex6 _ _ hL5
      replace hAll : All2 (PtAt (TAt n) (New HL H6)) vs ps := hAll.map fun v x h => h.ex (TAt.ex n) (new_keep (Grow.refl _) (Kq.of ex6) HLd HLt)
      have hT5' : H6 t = some (.lst (List.replicate k' (.int 1))) := hT5
      have dn : (fun (p : Pt (Rt.T n)) => okPart (okT n) (cT n) p) = okPart (okT n) (cT n) := rfl
      have done : ∀ (H7 : Hp) (y : V) (p : Pt (Rt.T n)) (k2 : Nat) (o5 o6 o7 o8 o9 : Option V), Kq d t H H7 → Dr ns c d H7 → Tally t k2 H7 → H7 L = some (.lst vs) → All2 (PtAt (TAt n) (New HL H7)) vs ps → PtAt (TAt n) (New HL H7) y p → okPart (okT n) (cT n) p → Nat.lcm cm (cPart (cT n) p) ≤ room → k' < k2 → k2 ≤ max k0 B + 4 → ((p.1.map (wItem (wT n))).flatten).length + 5 ≤ 8 * (k2 - k') →
          rAppend (.ref L) [y] H7 fun _ H8 => ∃ (ps : List (Pt (Rt.T n))) (vs : List V) (k' : Nat) (o5' o6' o7' o8' o9' : Option V), [some (.ref d), some (.int (room : Int)), some (.int (dp : Int)), some (.ref t), some (.ref L), o5, o6, o7, o8, o9] = [some (.ref d), some (.int (room : Int)), some (.int (dp : Int)), some (.ref t), some (.ref L), o5', o6', o7', o8', o9'] ∧
      Kq d t H H8 ∧ Dr ns c d H8 ∧ Tally t k' H8 ∧ k0 < k' ∧ k' ≤ max k0 B + 4 ∧ H8 L = some (.lst vs) ∧ All2 (PtAt (TAt n) (New HL H8)) vs ps ∧ (ps ≠ [] ∧ ∀ p ∈ ps, okPart (okT n) (cT n) p) ∧ cText (cT n) ps ≤ room ∧ ps.length ≤ (i + 1) + 1 ∧ (wText (wT n) ps).length + 2 ≤ 8 * (k' - k0) := by
        intro H7 y p k2 o5 o6 o7 o8 o9 a1 a2 a3 a4 a5 a6 a7 a8 a9 a10 a11
        obtain ⟨b1, b2, b3, b4⟩ := add_any (R := PtAt (TAt n)) (fun H H' v x e h => PtAt.ex (TAt.ex n) e h) HLL hLH Ld Lt Lc a1 a2 a3 a5 (by omega) a6
        refine ⟨L, vs, _, rfl, rfl, a4, by rw [sizeLine_eq]; omega, ps ++ [p], vs ++ [y], k2, o5, o6, o7, o8, o9, rfl, b1, b2, b3, by omega, a10, upd_same, b4, ⟨by simp, fun x hx => ?_⟩, ?_, by rw [List.length_append]; show _ + 1 ≤ _; omega, ?_⟩
        · rcases List.mem_append.mp hx with z | z
          · exact hok.2 x z
          · have : x = p := by simpa using z
            rw [this]; exact a7
        · rw [cText_snoc, ← hcm]
          exact a8
        · obtain ⟨l0, f0⟩ := p
          have h3 := wPart_len (w := wT n) l0 f0
          have a11' : ((l0.map (wItem (wT n))).flatten).length + 5 ≤ 8 * (k2 - k') := a11
          rw [wText_snoc _ ps hok.1, List.length_append, List.length_cons]
          omega
      walk_at "rd"
      rw [List.length_replicate]
      refine r_ite (fun h40 => ?_) (fun h40 => ?_)
      · walk_at "rd"
        refine ⟨c, d, 2, ns, rfl, hD5, by decide, fun z H7 z0 z1 kp7 hD7 => ?_⟩
        have kq7 := kq.trans (Kq.pick (t := t) kp7 hD7)
        have hT7 : Tally t k' H7 := kp7 _ _ td hT5
        have hT7' : H7 t = some (.lst (List.replicate k' (.int 1))) := hT7
        have hL7 := kp7 _ _ Ld hL5
        have hAll7 : All2 (PtAt (TAt n) (New HL H7)) vs ps := hAll.map fun v x h => h.ex (TAt.ex n) (new_keep (Grow.refl _) (Kq.pick (t := t) kp7 hD7) HLd HLt)
        clear hT5 hT5' hD5 hL5 hAll kq
        walk_at "rd"
        refine r_ite (fun hz => ?_) (fun hz => ?_)
        · walk_at "rd"
          refine lcR (fun D i acc H2 => Ex H7 H2 ∧ acc = (divs cm i).map fun (x : Nat) => V.int (x : Int)) (fun _ => rfl) (fun D hD => ⟨Evl.Ex.new hD, rfl⟩) (fun D i H8 acc hDn hi e8 hl8 hJ => ?_) (fun D H8 acc hDn e8 hJ => ?_)
          · obtain ⟨ex, rfl⟩ := hJ
            have eM : ((cm % (i + 1) : Nat) : Int) = (cm : Int) % (1 + (i : Int)) := by rw [Int.natCast_emod, Int.natCast_add, Int.add_comm]; rfl
            walk_at "rd"
            refine r_ite (fun hm => ?_) (fun hm => ?_)
            · have hm' : cm % (i + 1) = 0 := by omega
              walk_at "rd"
              refine lc_end (by omega) hl8 e8 ⟨ex.mut hDn, ?_⟩
              show _ = (divs cm i ++ (if cm % (i + 1) = 0 then [i + 1] else [])).map _
              rw [if_pos hm', List.map_append]
              show _ ++ [V.int (1 + (i : Int))] = _ ++ [V.int ((i + 1 : Nat) : Int)]
              rw [Int.natCast_add, Int.add_comm]
              rfl
            · have hm' : ¬ cm % (i + 1) = 0 := by omega
              refine lc_skip hl8 e8 ⟨ex, ?_⟩
              show _ = (divs cm i ++ (if cm % (i + 1) = 0 then [i + 1] else [])).map _
              rw [if_neg hm', List.append_nil]
          · obtain ⟨ex, rfl⟩ := hJ
            have en : ((cm : Int) + 1 - 1).toNat = cm := by omega
            rw [en] at e8
            have dl := divs_len (m := cm) (i := cm)
            have dp1 := divs_pos (m := cm) cm1
            have Dd : D ≠ d := hD7.nd hDn
            have hD8 := hD7.ex' ex
            walk_at "rd"
            rw [List.length_map]
            refine ⟨c, d, _, ns, rfl, hD8, Int.lt_of_le_of_lt (b := 24) (by omega) (by decide), fun pk H9 pk0 pk1 kp9 hD9 => ?_⟩
            have e9 := kp9 _ _ Dd e8
            have pkl : pk.toNat < (divs cm cm).length := by omega
            obtain ⟨s, hs⟩ : ∃ s, s = (divs cm cm)[pk.toNat] := ⟨_, rfl⟩
            have hs9 : ((divs cm cm).map fun (x : Nat) => V.int (x : Int))[pk.toNat]? = some (.int (s : Int)) := by
              rw [List.getElem?_map, List.getElem?_eq_getElem pkl, hs]
              rfl
            obtain ⟨s1, s2, s3⟩ := divs_mem (m := cm) (i := cm) (x := s) (by rw [hs]; exact List.getElem_mem _)
            have kq9 : Kq d t H7 H9 := (Kq.of ex).trans (Kq.pick kp9 hD9)
            have hT9 : Tally t k' H9 := kp9 _ _ td (ex _ _ hT7)
            have hL9 := kp9 _ _ Ld (ex _ _ hL7)
            walk_at "rd"
            refine ⟨.inl ⟨rfl, _, Evl.sq_of hL9⟩, ?_⟩
            walk_at "rd"
            refine ⟨c, d, t, s, dp, k', ns, rfl, hD9, hT9, td, tc, s1, by omega, by omega, by omega, fun y p k2 H10 M hp okp cp lenp k2lt k2le => ?_⟩
            obtain ⟨l0, f0⟩ := p
            obtain ⟨a, b, vs0, rfl, ha, hb, hall0⟩ := hp
            have ha' : H10 a = some (.tup [.ref b, .int (f0 : Int)]) := new_sub _ _ ha
            have kqA := kq9.trans M.kq
            have grw : Grow HL H9 := fun b hb => by
              have nL : b ≠ L := fun z => by rw [z, hL9] at hb; cases hb
              rw [hHL, upd_ne nL]
              exact (kq7.trans kq9).1 b hb
            walk_at "rd"
            refine ⟨small (by show 2 ≤ 1000000; decide), fun p hp => ?_⟩
            have exP := Evl.Ex.new (o := .tup [.ref b, .int (s : Int)]) hp
            have gP : (upd H10 p (.tup [.ref b, .int (s : Int)])) p = some (.tup [.ref b, .int (s : Int)]) := upd_same
            generalize upd H10 p (.tup [.ref b, .int (s : Int)]) = H11 at exP gP ⊢
            have hL10 := M.kq.2 _ _ Ld Lt hL9
            have hpL : HL p = none := by
              have nL : p ≠ L := fun z => by rw [z, hL10] at hp; cases hp
              rw [hHL, upd_ne nL]
              exact (kq7.trans kqA).1 p hp
            have kqB := M.kq.trans (Kq.of exP)
            have sub : Ex (New H9 H10) (New HL H11) := new_keep grw (Kq.of exP) (fun z => HLd (grw _ z)) (fun z => HLt (grw _ z))
            have ci := part_len okp cp
            have eP : cPart (cT n) (l0, s) = s := if_pos s1
            walk_at "rd"
            refine done H11 (.ref p) (l0, s) k2 _ _ _ _ _ (kq7.trans (kq9.trans kqB)) (M.dr.ex' exP) (exP _ _ M.tl) (exP _ _ hL10) (hAll7.map fun v x h => h.ex (TAt.ex n) (new_keep (Grow.refl _) (kq9.trans kqB) HLd HLt))
              ⟨p, b, vs0, rfl, new_get hpL gP, sub _ _ hb, hall0.map fun v x h => h.ex (TAt.ex n) sub⟩ ⟨okp.1, okp.2.1, .inr ⟨ci, by show s ≤ 24; omega⟩⟩ ?_ k2lt (by omega) lenp
            rw [eP, Nat.lcm_eq_left (Nat.dvd_of_mod_eq_zero s3)]
            exact hroom
        · walk_at "rd"
          rw [List.length_replicate]
          refine r_ite (fun _ => ?_) (fun z => absurd h40 z)
          walk_at "rd"
          refine ⟨.inl ⟨rfl, _, Evl.sq_of hL7⟩, ?_⟩
          have dv : CDivW (room : Int) (cm : Int) := wide_div (b := 10) (by omega) (by omega) (by decide) (by decide)
          have eD : (room : Int) / (cm : Int) = ((room / cm : Nat) : Int) := (Int.natCast_ediv _ _).symm
          have lf1 : 1 ≤ room / cm := Nat.div_pos hroom cm1
          have lf2 : cm * (room / cm) ≤ room := Nat.mul_div_le _ _
          have lf3 : room / cm ≤ room := Nat.div_le_self _ _
          generalize room / cm = lf at eD lf1 lf2 lf3
          walk_at "rd"
          rw [eD]
          refine ⟨c, d, t, lf, dp, k', ns, rfl, hD7, hT7, td, tc, lf1, by omega, by omega, by omega, fun y p k2 H10 M hp okp cp lenp k2lt k2le => ?_⟩
          have grw : Grow HL H7 := fun b hb => by
            have nL : b ≠ L := fun z => by rw [z, hL7] at hb; cases hb
            rw [hHL, upd_ne nL]
            exact kq7.1 b hb
          have hL10 := M.kq.2 _ _ Ld Lt hL7
          have sub : Ex (New H7 H10) (New HL H10) := new_keep grw (Kq.refl d t _) (fun z => HLd (grw _ z)) (fun z => HLt (grw _ z))
          have cpp := cPart_pos (cT_pos n) okp
          walk_at "rd"
          refine done H10 y p k2 _ _ _ _ _ (kq7.trans M.kq) M.dr M.tl hL10 (hAll7.map fun v x h => h.ex (TAt.ex n) (new_keep (Grow.refl _) M.kq HLd HLt)) (hp.ex (TAt.ex n) sub) okp ?_ k2lt (by omega) lenp
          refine Nat.le_trans (Nat.le_of_dvd (Nat.mul_pos cm1 cpp) (Nat.lcm_dvd_mul _ _)) (Nat.le_trans (Nat.mul_le_mul_left _ cp) lf2)
      · walk_at "rd"
        rw [List.length_replicate]
        refine r_ite (fun z => absurd z h40) (fun _ => ?_)
        walk_at "rd"
        exact ⟨ps, vs, k', _, _, _, _, _, rfl, kq, hD5, hT5, hk1, hk2, hL5, hAll, hok, by rw [← hcm]; exact hroom, by omega, hlen⟩
    · obtain ⟨ps, vs, k', o5, o6, o7, o8, o9, rfl, kq, hD5, hT5, hk1, hk2, hL5, hAll, hok, hroom, hll, hlen⟩ := hJ
      walk_at "rd"
      exact q _ (show Rt.T (n + 1) from ps) k' _ ⟨kq, hD5, hT5, by omega⟩ ⟨L, vs, rfl, new_get hLH hL5, hAll.map fun v x h => h.ex (TAt.ex n) (new_keep gHL (Kq.refl d t _) HLd HLt)⟩ hok hroom hlen hk1 (by omega)
end
end Fk

set_option Elab.async false
set_option linter.all false
set_option maxRecDepth 100000
set_option maxHeartbeats 4000000
namespace Fk
open PySem PySem.Spec PyProof.Rows L2 Fg Rt
local macro_rules | `(tactic| walk_at "rd1") => `(tactic| first
  | with_reducible refine r_seq ?_
  | with_reducible refine r_asg ?_
  | with_reducible refine r_gname ?_
  | with_reducible refine r_gsub ?_
  | with_reducible refine r_ret ?_
  | with_reducible refine r_retN ?_
  | with_reducible refine r_next ?_
  | with_reducible refine r_drop ?_
  | with_reducible refine r_ifS ?_
  | with_reducible refine r_if ?_
  | with_reducible refine r_par ?_
  | with_reducible refine r_pair ?_
  | with_reducible refine r_test ?_
  | with_reducible refine r_tB ?_
  | with_reducible refine r_not ?_
  | with_reducible refine r_and ?_
  | with_reducible refine r_or ?_
  | with_reducible refine r_andV ?_
  | with_reducible refine r_orV ?_
  | with_reducible refine r_notV ?_
  | with_reducible refine r_nil ?_
  | with_reducible refine r_cons ?_
  | with_reducible refine r_call ?_
  | with_reducible refine r_callS ?_
  | with_reducible refine r_cb ?_
  | with_reducible refine r_then ?_
  | with_reducible refine r_tup ?_
  | with_reducible refine r_lst ?_
  | with_reducible refine r_sl ?_
  | with_reducible refine r_nopart ?_
  | with_reducible refine r_part ?_
  | with_reducible refine r_lcR1 ?_
  | with_reducible refine r_lcR2 ?_
  | with_reducible refine r_lcL ?_
  | with_reducible refine r_lcT ?_
  | with_reducible refine r_forR1 ?_
  | with_reducible refine r_forR2 ?_
  | with_reducible refine r_forL ?_
  | with_reducible refine r_forT ?_
  | with_reducible refine r_forE ?_
  | with_reducible refine r_strE ?_
  | ((with_reducible refine r_rng1 ?hc ?_); (case hc => omega))
  | ((with_reducible refine r_rng2 ?hc ?_); (case hc => omega))
  | ((with_reducible refine' r_refL ?hc ?_); (case hc => first | assumption | exact Evl.sq_of (by assumption)))
  | ((with_reducible refine' r_refT ?hc ?_); (case hc => first | assumption | exact Evl.st_of (by assumption)))
  | with_reducible refine r_op ?_
  | with_reducible refine r_un ?_
  | with_reducible refine r_chain ?_
  | ((with_reducible refine' r_var ?hv ?_); (case hv => exact rfl))
  | with_reducible refine r_cS ?_
  | with_reducible refine r_cs ?_
  | with_reducible refine r_c ?_
  | with_reducible refine r_yes ?_
  | with_reducible refine r_bm ?_
  | with_reducible refine r_bl ?_
  | with_reducible refine r_in ?_
  | with_reducible refine r_ty ?_
  | with_reducible refine r_I0 ?_
  | ((with_reducible refine r_I ?hc ?_); (case hc => first | assumption | (show (0 : Int) < _; decide) | exact Or.inr ⟨by decide, by decide⟩ | exact Or.inr ⟨by omega, by omega⟩ | exact Or.inl ⟨by decide, by decide⟩ | exact (show CDivW _ _ from ⟨by decide, by decide +kernel⟩) | exact (show CPowW _ _ from ⟨by decide, by decide +kernel⟩) | (show (0 : Int) < _; omega)))
  | with_reducible refine r_U ?_
  | with_reducible refine r_eqI ?_
  | with_reducible refine r_neI ?_
  | with_reducible refine r_eqS ?_
  | with_reducible refine r_neS ?_
  | with_reducible refine r_eqB ?_
  | with_reducible refine r_neB ?_
  | with_reducible refine r_niS ?_
  | with_reducible refine r_inSS ?_
  | ((with_reducible refine r_slSS ?hc ?_); (case hc => first | exact small (by omega) | exact small (by simp; omega)))
  | ((with_reducible refine r_lenS ?hc ?_); (case hc => first | exact small (by omega) | exact small (by simp; omega)))
  | ((with_reducible refine' r_lenL ?hc ?_); (case hc => first | assumption | exact Evl.sq_of (by assumption)))
  | ((with_reducible refine' r_lenT ?hc ?_); (case hc => first | assumption | exact Evl.st_of (by assumption)))
  | ((with_reducible refine' r_ixL ?h1 ?h2 ?h3 ?_); (case h1 => first | assumption | exact Evl.sq_of (by assumption) | exact Evl.sq_of upd_same); (case h2 => first | decide | omega); (case h3 => first | exact rfl | assumption))
  | ((with_reducible refine' r_ixT ?h1 ?h2 ?h3 ?_); (case h1 => first | assumption | exact Evl.st_of (by assumption)); (case h2 => first | decide | omega); (case h3 => first | exact rfl | assumption))
  | with_reducible refine r_T ?_
  | with_reducible refine r_notNn ?_
  | with_reducible refine r_notN_int ?_
  | with_reducible refine r_notN_str ?_
  | with_reducible refine r_notN_ref ?_
  | with_reducible refine r_isNn ?_
  | with_reducible refine r_isN_int ?_
  | with_reducible refine r_isN_str ?_
  | with_reducible refine r_isN_ref ?_
  | ((with_reducible refine' r_isi ?ht ?hk ?_); (case ht => first | exact .base (.int _) | exact .base (.bl _) | exact .base (.str _) | exact .base .non | exact .base (.lst (by assumption)) | exact .base (.tup (by assumption))); (case hk => first | exact kb_int_int | exact kb_int_bool | exact kb_int_str | exact kb_int_list | exact kb_int_tuple | exact kb_bool_int | exact kb_bool_bool | exact kb_bool_str | exact kb_bool_list | exact kb_bool_tuple | exact kb_str_int | exact kb_str_bool | exact kb_str_str | exact kb_str_list | exact kb_str_tuple | exact kb_NoneType_int | exact kb_NoneType_bool | exact kb_NoneType_str | exact kb_NoneType_list | exact kb_NoneType_tuple | exact kb_list_int | exact kb_list_bool | exact kb_list_str | exact kb_list_list | exact kb_list_tuple | exact kb_tuple_int | exact kb_tuple_bool | exact kb_tuple_str | exact kb_tuple_list | exact kb_tuple_tuple))
  | with_reducible refine r_F ?_
  | with_reducible refine r_nT ?_
  | with_reducible refine r_nF ?_
  | with_reducible refine r_mko ?_
  | with_reducible refine r_xf ?_
  | ((with_reducible refine' r_sum ?hc ?_); (case hc => first | assumption | exact Evl.sq_of (by assumption)))
  | ((with_reducible refine' r_setL ?h1 ?h2 ?h3 ?_); (case h1 => first | assumption | exact upd_same); (case h2 => first | decide | omega); (case h3 => first | (show _ < _; decide) | (simp; done)))
  | with_reducible refine r_int ?_
  | with_reducible refine r_abs ?_)
local macro_rules | `(tactic| walk_at "rd") => `(tactic| repeat (walk_at "rd1"))

section
variable {P : Program} {w : World} {K : PySem.W.Frag} {mg : Str → Option Value} {base : Heap}
theorem can_rooms (T : Bi mg) (F1 : Defd K mg "_law_room_part" s_l_room_part ["_law_draw_here", "_law_room", "_law_depth", "_law_tally"]) (F2 : Defd K mg "_law_room_text" s_l_room_text ["_law_draw_here", "_law_room", "_law_depth", "_law_tally"]) (C_l_pick : Can P w K mg base L2.CX0 2 "_law_pick" ["_law_draw_here", "_law_many"] spPick) (C_l_sign : Can P w K mg base L2.CX0 3 "_law_sign" ["_law_draw_here"] spSign)
    (CC : ∀ n : Nat, Can P w K mg base L2.CX0 (1 + 3 * n) "_law_count" ["_law_parts"] (spCount n) ∧ Can P w K mg base L2.CX0 (2 + 3 * n) "_law_item_count" ["_law_item"] (spItemC n)) :
    ∀ n : Nat, n ≤ 6 → Can P w K mg base L2.CX0 (10 + 2 * n) "_law_room_text" ["_law_draw_here", "_law_room", "_law_depth", "_law_tally"] (spRoomText n) ∧ Can P w K mg base L2.CX0 (11 + 2 * n) "_law_room_part" ["_law_draw_here", "_law_room", "_law_depth", "_law_tally"] (spRoomPart n) := by
  have two : ∀ (n : Nat), n ≤ 6 → Can P w K mg base L2.CX0 (10 + 2 * n) "_law_room_text" ["_law_draw_here", "_law_room", "_law_depth", "_law_tally"] (spRoomText n) → Can P w K mg base L2.CX0 (11 + 2 * n) "_law_room_part" ["_law_draw_here", "_law_room", "_law_depth", "_law_tally"] (spRoomPart n) := by
    intro n hn h
    have h1 := can_l_room_part (k := 10 + 2 * n) (j := 2 + 3 * n) T F1 (by omega) (by omega) C_l_pick C_l_sign (CC n).2 h
    rw [show 10 + 2 * n + 1 = 11 + 2 * n by omega] at h1
    exact h1
  intro n
  induction n with
  | zero =>
    intro _
    have h0 : Can P w K mg base L2.CX0 (10 + 2 * 0) "_law_room_text" ["_law_draw_here", "_law_room", "_law_depth", "_law_tally"] (spRoomText 0) :=
      can0 (k := 9) F2 sc_l_room_text (fun vs H Q E h => by obtain ⟨_, _, _, _, _, _, _, rfl, _⟩ := h; rfl) (fun f cdv A outer s H vs Q E hr h => by obtain ⟨_, _, _, _, dp, _, _, _, _, _, _, _, _, _, _, z1, z2, _⟩ := h; omega)
    exact ⟨h0, two 0 (by omega) h0⟩
  | succ n ih =>
    intro hn
    obtain ⟨i1, i2⟩ := ih (by omega)
    have h := can_l_room_text (n := n) (k := 11 + 2 * n) (j := 1 + 3 * (n + 1)) T F2 (by omega) (by omega) C_l_pick (CC (n + 1)).1 i2
    rw [show 11 + 2 * n + 1 = 10 + 2 * (n + 1) by omega] at h
    exact ⟨h, two (n + 1) (by omega) h⟩
/-! ### what is put together -/
theorem new_ex {H0 G G2 : Hp} (e : Ex G G2) : Ex (New H0 G) (New H0 G2) := fun b u h => new_get (new_some h).1 (e b u (new_some h).2)
theorem All2.one {α : Type} {R : V → α → Prop} {v : V} {x : α} (h : R v x) : All2 R [v] [x] := ⟨rfl, by show 1 ≤ 1000; decide, fun k v' x' h1 h2 => by
  cases k with
  | zero => cases h1; cases h2; exact h
  | succ k => cases h1⟩
theorem All2.two {α : Type} {R : V → α → Prop} {v u : V} {x y : α} (h : R v x) (g : R u y) : All2 R [v, u] [x, y] := (All2.one h).snoc (by show 1 < 1000; decide) g
theorem All2.cons {α : Type} {R : V → α → Prop} {vs : List V} {xs : List α} (h : All2 R vs xs) (hv : vs.length < 1000) {v : V} {x : α} (hx : R v x) : All2 R (v :: vs) (x :: xs) := ⟨by rw [List.length_cons, List.length_cons, h.1], by rw [List.length_cons]; omega, fun k v' x' h1 h2 => by
  cases k with
  | zero => cases h1; cases h2; exact hx
  | succ k => exact h.2.2 k v' x' h1 h2⟩
theorem Kq.drop {d t : Addr} {H H1 H' : Hp} {o : HO} (ht : H t = none) (e : H1 = L2.upd H t o) (k : Kq d t H1 H') : Kq d d H H' := by
  subst e
  refine ⟨fun b hb => Grow.upd (o := o) b (k.1 b hb), fun b u n _ h => ?_⟩
  have nt : b ≠ t := fun z => by rw [z, ht] at h; cases h
  exact k.2 b u n nt (by rw [upd_ne nt]; exact h)
def spText (B : Nat) : Sp := fun vs H Q _ => ∃ (c d : Addr) (ns : List Int), vs = [.ref d] ∧ Dr ns c d H ∧ ∀ (v : V) (n : Nat) (x : T n) H', n ≤ 7 → Kq d d H H' → Dr ns c d H' → TAt n (New H H') v x → okT n x → (wT n x).length ≤ B → Q v H'
theorem one_len {α : Type} {w : α → List Nat} {t c : Nat} : (wItem w (t, .inl c)).length ≤ 3 := by
  show ((if 0 < t then digs t else []) ++ [c]).length ≤ 3
  rw [List.length_append]
  have := digs_len t
  split
  · show _ + 1 ≤ 3; omega
  · show 0 + 1 ≤ 3; decide
abbrev s_l_edge_text : Stmt := topS 42
abbrev N_l_edge_text : List Str := ["_law_draw_here", "_law_items", "_law_left", "_law_item"]
theorem sc_l_edge_text : FnScope ["_law_draw_here", "_law_items", "_law_left", "_law_item"] ["_law_draw_here"] (defScope s_l_edge_text) := ⟨rfl, rfl, rfl, by decide +kernel, rfl, by decide +kernel, by decide +kernel⟩
theorem can_l_edge_text (T : Bi mg) (F : Defd K mg "_law_edge_text" s_l_edge_text ["_law_draw_here"]) {k j : Nat} (hk : 3 ≤ k) (hj : j ≤ k) (C_l_pick : Can P w K mg base L2.CX0 2 "_law_pick" ["_law_draw_here", "_law_many"] spPick) (C_l_sign : Can P w K mg base L2.CX0 3 "_law_sign" ["_law_draw_here"] spSign) (C_l_item_count : Can P w K mg base L2.CX0 j "_law_item_count" ["_law_item"] (spItemC 4)) (C_l_room_part : Can P w K mg base L2.CX0 k "_law_room_part" ["_law_draw_here", "_law_room", "_law_depth", "_law_tally"] (spRoomPart 4)) : Can P w K mg base L2.CX0 (k + 1) "_law_edge_text" ["_law_draw_here"] (spText 1400) := by
  refine can0 F sc_l_edge_text (fun vs H Q E h => ?_) (fun f cdv A outer s H vs Q E hr h => ⟨_, (pss_cons (ps_set (i := 1) sc_l_edge_text.nd rfl (by first | exact Or.inl rfl | exact Or.inr rfl) (pe_ix ix_tup (pe_can C_l_room_part hr (by omega) rfl (pa_cons (pv 0) (pa_cons pe_int (pa_cons pe_int (pa_cons (pe_lst pa_nil) pa_nil))))) pe_int (fun _ _ => rfl)))
  (pss_cons (ps_set (i := 2) sc_l_edge_text.nd rfl (by first | exact Or.inl rfl | exact Or.inr rfl) (pe_op op_sub (pe_op op_add pe_int (pe_can C_l_pick hr (by omega) rfl (pa_cons (pv 0) (pa_cons pe_int pa_nil)))) (pe_callB (cr_sum rfl) (by rfl) T.b_sum boot_sum (pa_cons (pe_lc (own := [("_law_item", 3)]) (g := gName 3) (tt := tYes) rfl sc_l_edge_text.nd (pi_list (pv 1)) (blkOk_by (N := N_l_edge_text) (sc := defScope s_l_edge_text) (by decide +kernel)) (fun _ _ _ _ _ => pg_name (i := 3) sc_l_edge_text.nd rfl (Or.inl rfl)) (fun _ _ _ _ _ => pts_nil) (fun _ _ _ _ _ => (pe_can C_l_item_count hr (by omega) rfl (pa_cons (pv 3) pa_nil)))) pa_nil))))
  (pss_cons (ps_if (pt_cmpR op_eq (pv 2) pe_int (nomark _)) (pss_one (ps_ret (pe_lst (pa_cons (pe_tup (pa_cons (pe_op op_cat (pv 1) (pe_lst (pa_cons (pe_tup (pa_cons pe_int (pa_cons (pe_can C_l_sign hr (by omega) rfl (pa_cons (pv 0) pa_nil)) pa_nil))) pa_nil))) (pa_cons pe_int pa_nil))) pa_nil)))) pss_nil)
  (pss_cons (ps_if (pt_cmpR op_gt (pv 2) pe_int (nomark _)) (pss_one (ps_ret (pe_lst (pa_cons (pe_tup (pa_cons (pe_op op_cat (pe_lst (pa_cons (pe_tup (pa_cons (pv 2) (pa_cons (pe_can C_l_sign hr (by omega) rfl (pa_cons (pv 0) pa_nil)) pa_nil))) pa_nil)) (pv 1)) (pa_cons pe_int pa_nil))) pa_nil)))) pss_nil)
  (pss_one (ps_ret (pe_lst (pa_cons (pe_tup (pa_cons (pv 1) (pa_cons pe_int pa_nil))) pa_nil)))))))), ?_⟩)
  · obtain ⟨_, _, _, rfl, _⟩ := h
    rfl
  · obtain ⟨c, d, ns, rfl, hD, q⟩ := h
    have Hd : H d ≠ none := hD.some
    walk_at "rd"
    refine ⟨small (by show 0 ≤ 1000000; decide), fun t ht => ?_⟩
    have td : t ≠ d := hD.nd ht
    have tc : t ≠ c := hD.nc ht
    have exT := Evl.Ex.new (o := .lst []) ht
    have gT : (upd H t (.lst [])) t = some (.lst []) := upd_same
    obtain ⟨H1, hH1⟩ : ∃ H1, H1 = upd H t (.lst []) := ⟨_, rfl⟩
    rw [← hH1] at exT gT ⊢
    have hD1 := hD.ex' exT
    have hT1 : Tally t 0 H1 := gT
    have Hd1 : H1 d ≠ none := hD1.some
    have Ht1 : H1 t ≠ none := fun z => by rw [gT] at z; cases z
    walk_at "rd"
    refine ⟨c, d, t, 24, 0, 0, ns, rfl, hD1, hT1, td, tc, by decide, by decide, by decide, by decide, fun v p k1 H2 M hp okp cp lenp k1lt k1le => ?_⟩
    obtain ⟨l, f0⟩ := p
    obtain ⟨a, b, vs, rfl, ha, hb, hall⟩ := hp
    have ha' : H2 a = some (.tup [.ref b, .int (f0 : Int)]) := new_sub _ _ ha
    have hb' : H2 b = some (.lst vs) := new_sub _ _ hb
    have ci := part_len okp cp
    have ci1 : 1 ≤ cItems (cT 4) l := cItems_pos (cT_pos 4) okp.1 okp.2.1
    have lenl : ((l.map (wItem (wT 4))).flatten).length + 5 ≤ 8 * (k1 - 0) := lenp
    have ll := len_items (w := wT 4) l
    have bd : b ≠ d := fun z => Hd1 (by rw [← z]; exact (new_some hb).1)
    have hvs : vs.length = l.length := hall.1
    walk_at "rd"
    refine ⟨c, d, 2, ns, rfl, M.dr, by decide, fun z H3 z0 z1 kp3 hD3 => ?_⟩
    have kqP := Kq.pick (t := t) kp3 hD3
    have kq3 := M.kq.trans kqP
    have hb3 := kp3 _ _ bd hb'
    have nk := new_keep (Grow.refl H1) kqP Hd1 Ht1
    replace hb := nk _ _ hb
    replace hall : All2 (ItAt (TAt 4) (New H1 H3)) vs l := hall.map fun v x h => h.ex (TAt.ex 4) nk
    have big : 24 < 2 ^ 8500 := Nat.lt_of_lt_of_le (by decide : 24 < 2 ^ 5) (Nat.pow_le_pow_right (by decide) (by decide))
    walk_at "rd"
    refine lcL (xs := vs) (fun D i acc H2 => Ex H3 H2 ∧ acc = ((l.take i).map fun i => ((cItem (cT 4) i : Nat) : Int)).map V.int) (fun _ => rfl) (fun D hD => ⟨Evl.Ex.new hD, rfl⟩) (fun D i H2 acc hD hJ => Evl.sq_of (hJ.1 _ _ hb3))
      (fun D i x H2 acc hDn hx e2 hl2 hJ => ?_) (fun D H4 acc hDn e2 hJ => ?_)
    · obtain ⟨ex, rfl⟩ := hJ
      have hi := lt_of_get hx
      have hy : l[i]? = some l[i] := List.getElem?_eq_getElem (by omega)
      have hm : l[i] ∈ l := List.getElem_mem _
      have hit := hall.2.2 i x l[i] hx hy
      walk_at "rd"
      refine ⟨x, l[i], rfl, (hit.ex (TAt.ex 4) new_sub).ex (TAt.ex 4) ex, okp.2.1 _ hm, Nat.lt_of_le_of_lt (Nat.le_trans (mem_le hm) ci) big, fun H3 ex3 => ?_⟩
      refine lc_end (by omega) hl2 (ex3 _ _ e2) ⟨(ex.trans ex3).mut hDn, ?_⟩
      rw [take_snoc hy, List.map_append, List.map_append]
      rfl
    obtain ⟨ex4, rfl⟩ := hJ
    rw [List.take_of_length_le (by omega)] at e2
    walk_at "rd"
    rw [sum_cast]
    obtain ⟨zn, rfl⟩ : ∃ zn : Nat, z = zn := ⟨z.toNat, by omega⟩
    have kq4 := kq3.trans (Kq.of ex4)
    have hD4 := hD3.ex' ex4
    replace hb := new_ex (H0 := H1) ex4 _ _ hb
    replace hall : All2 (ItAt (TAt 4) (New H1 H4)) vs l := hall.map fun v x h => h.ex (TAt.ex 4) (new_ex ex4)
    have hb4 : H4 b = some (.lst vs) := new_sub _ _ hb
    have fin : ∀ (G : Hp) (p s : Addr) (ps : List (Pt (Rt.T 4))), Kq d t H1 G → Dr ns c d G → TxAt (TAt 4) (New H1 G) (.ref s) ps → okText (okT 4) (cT 4) ps → (wText (wT 4) ps).length ≤ 1400 → Q (.ref s) G := fun G p s ps a1 a2 a3 a4 a5 =>
      q _ 5 (show Rt.T 5 from ps) G (by decide) (Kq.drop ht hH1 a1) a2 (TxAt.ex (TAt.ex 4) (new_keep (Grow.ex exT) (Kq.refl d t G) Hd1 Ht1) a3) a4 a5
    clear hb3 hb' hD3 kq3 kqP nk e2 ha'
    refine r_ite (fun h => ?_) (fun h => ?_)
    · walk_at "rd"
      refine ⟨c, d, ns, rfl, hD4, fun ch H5 hch kp5 hD5 => ?_⟩
      have kqS := Kq.pick (t := t) kp5 hD5
      have kq5 := kq4.trans kqS
      have nk := new_keep (Grow.refl H1) kqS Hd1 Ht1
      replace hb := nk _ _ hb
      replace hall : All2 (ItAt (TAt 4) (New H1 H5)) vs l := hall.map fun v x h => h.ex (TAt.ex 4) nk
      walk_at "rd"
      refine ⟨small (by show 2 ≤ 1000000; decide), fun p1 hp1 => ?_⟩
      have exp1 := Evl.Ex.new (o := .tup [.int 0, .str (S [ch])]) hp1
      have gp1 : (upd H5 p1 (.tup [.int 0, .str (S [ch])])) p1 = some (.tup [.int 0, .str (S [ch])]) := upd_same
      generalize upd H5 p1 (.tup [.int 0, .str (S [ch])]) = H6 at exp1 gp1 ⊢
      have kq6 := kq5.trans (Kq.of exp1)
      have hD6 := hD5.ex' exp1
      have np1 : New H1 H6 p1 = some (.tup [.int 0, .str (S [ch])]) := new_get (kq5.1 _ hp1) gp1
      replace hb := new_ex (H0 := H1) exp1 _ _ hb
      replace hall : All2 (ItAt (TAt 4) (New H1 H6)) vs l := hall.map fun v x h => h.ex (TAt.ex 4) (new_ex exp1)
      walk_at "rd"
      refine ⟨small (by show 1 ≤ 1000000; decide), fun p2 hp2 => ?_⟩
      have exp2 := Evl.Ex.new (o := .lst [.ref p1]) hp2
      have gp2 : (upd H6 p2 (.lst [.ref p1])) p2 = some (.lst [.ref p1]) := upd_same
      generalize upd H6 p2 (.lst [.ref p1]) = H7 at exp2 gp2 ⊢
      have kq7 := kq6.trans (Kq.of exp2)
      have hD7 := hD6.ex' exp2
      have np2 : New H1 H7 p2 = some (.lst [.ref p1]) := new_get (kq6.1 _ hp2) gp2
      replace hb := new_ex (H0 := H1) exp2 _ _ hb
      replace hall : All2 (ItAt (TAt 4) (New H1 H7)) vs l := hall.map fun v x h => h.ex (TAt.ex 4) (new_ex exp2)
      have n1 := new_ex exp2 _ _ np1
      have hb7 : H7 b = some (.lst vs) := new_sub _ _ hb
      walk_at "rd"
      refine ⟨_, _, _, _, rfl, rfl, hb7, gp2, by rw [sizeLine_eq]; show _ + 1 ≤ _; omega, fun p3 hp3 => ?_⟩
      have exp3 := Evl.Ex.new (o := .lst (vs ++ [.ref p1])) hp3
      have gp3 : (upd H7 p3 (.lst (vs ++ [.ref p1]))) p3 = some (.lst (vs ++ [.ref p1])) := upd_same
      generalize upd H7 p3 (.lst (vs ++ [.ref p1])) = H8 at exp3 gp3 ⊢
      have kq8 := kq7.trans (Kq.of exp3)
      have hD8 := hD7.ex' exp3
      have np3 : New H1 H8 p3 = some (.lst (vs ++ [.ref p1])) := new_get (kq7.1 _ hp3) gp3
      replace hb := new_ex (H0 := H1) exp3 _ _ hb
      replace hall : All2 (ItAt (TAt 4) (New H1 H8)) vs l := hall.map fun v x h => h.ex (TAt.ex 4) (new_ex exp3)
      replace n1 := new_ex exp3 _ _ n1
      walk_at "rd"
      refine ⟨small (by show 2 ≤ 1000000; decide), fun p4 hp4 => ?_⟩
      have exp4 := Evl.Ex.new (o := .tup [.ref p3, .int 0]) hp4
      have gp4 : (upd H8 p4 (.tup [.ref p3, .int 0])) p4 = some (.tup [.ref p3, .int 0]) := upd_same
      generalize upd H8 p4 (.tup [.ref p3, .int 0]) = H9 at exp4 gp4 ⊢
      have kq9 := kq8.trans (Kq.of exp4)
      have hD9 := hD8.ex' exp4
      have np4 : New H1 H9 p4 = some (.tup [.ref p3, .int 0]) := new_get (kq8.1 _ hp4) gp4
      replace hb := new_ex (H0 := H1) exp4 _ _ hb
      replace hall : All2 (ItAt (TAt 4) (New H1 H9)) vs l := hall.map fun v x h => h.ex (TAt.ex 4) (new_ex exp4)
      replace n1 := new_ex exp4 _ _ n1
      have n3 := new_ex exp4 _ _ np3
      walk_at "rd"
      refine ⟨small (by show 1 ≤ 1000000; decide), fun p5 hp5 => ?_⟩
      have exp5 := Evl.Ex.new (o := .lst [.ref p4]) hp5
      have gp5 : (upd H9 p5 (.lst [.ref p4])) p5 = some (.lst [.ref p4]) := upd_same
      generalize upd H9 p5 (.lst [.ref p4]) = G at exp5 gp5 ⊢
      have kqG := kq9.trans (Kq.of exp5)
      have hDG := hD9.ex' exp5
      have np5 : New H1 G p5 = some (.lst [.ref p4]) := new_get (kq9.1 _ hp5) gp5
      replace hb := new_ex (H0 := H1) exp5 _ _ hb
      replace hall : All2 (ItAt (TAt 4) (New H1 G)) vs l := hall.map fun v x h => h.ex (TAt.ex 4) (new_ex exp5)
      replace n1 := new_ex exp5 _ _ n1
      replace n3 := new_ex exp5 _ _ n3
      have n4 := new_ex exp5 _ _ np4
      refine fin G p5 p5 [(l ++ [(0, .inl ch)], 0)] kqG hDG ⟨p5, [.ref p4], rfl, np5, All2.one ⟨p4, p3, _, rfl, n4, n3, hall.snoc (by omega) ⟨p1, rfl, n1⟩⟩⟩ ⟨by simp, fun p hp => ?_⟩ ?_
      · have e : p = (l ++ [(0, .inl ch)], 0) := by simpa using hp
        rw [e]
        refine ⟨by simp, fun x hx => ?_, .inl rfl⟩
        rcases List.mem_append.mp hx with z | z
        · exact okp.2.1 x z
        · have : x = (0, .inl ch) := by simpa using z
          rw [this]; exact ⟨hch, .inl rfl⟩
      · have h3 := wPart_len (w := wT 4) (l ++ [(0, .inl ch)]) 0
        rw [List.map_append, List.flatten_append, List.length_append] at h3
        have h4 : (([(0, .inl ch)] : List (It (Rt.T 4))).map (wItem (wT 4))).flatten.length ≤ 3 := by
          have e : (([(0, .inl ch)] : List (It (Rt.T 4))).map (wItem (wT 4))).flatten = wItem (wT 4) (0, .inl ch) := by simp
          rw [e]; exact one_len
        show (wPart (wT 4) (l ++ [(0, .inl ch)], 0)).length ≤ 1400
        omega
    · walk_at "rd"
      refine r_ite (fun h2 => ?_) (fun h2 => ?_)
      · walk_at "rd"
        refine ⟨c, d, ns, rfl, hD4, fun ch H5 hch kp5 hD5 => ?_⟩
        have kqS := Kq.pick (t := t) kp5 hD5
        have kq5 := kq4.trans kqS
        have nk := new_keep (Grow.refl H1) kqS Hd1 Ht1
        replace hb := nk _ _ hb
        replace hall : All2 (ItAt (TAt 4) (New H1 H5)) vs l := hall.map fun v x h => h.ex (TAt.ex 4) nk
        obtain ⟨lf, hlf⟩ : ∃ lf : Nat, lf = 24 + zn - cItems (cT 4) l := ⟨_, rfl⟩
        have eL : (24 : Int) + (zn : Int) - ((cItems (cT 4) l : Nat) : Int) = (lf : Int) := by omega
        rw [eL] at h2
        walk_at "rd"
        rw [eL]
        refine ⟨small (by show 2 ≤ 1000000; decide), fun p1 hp1 => ?_⟩
        have exp1 := Evl.Ex.new (o := .tup [.int (lf : Int), .str (S [ch])]) hp1
        have gp1 : (upd H5 p1 (.tup [.int (lf : Int), .str (S [ch])])) p1 = some (.tup [.int (lf : Int), .str (S [ch])]) := upd_same
        generalize upd H5 p1 (.tup [.int (lf : Int), .str (S [ch])]) = H6 at exp1 gp1 ⊢
        have kq6 := kq5.trans (Kq.of exp1)
        have hD6 := hD5.ex' exp1
        have np1 : New H1 H6 p1 = some (.tup [.int (lf : Int), .str (S [ch])]) := new_get (kq5.1 _ hp1) gp1
        replace hb := new_ex (H0 := H1) exp1 _ _ hb
        replace hall : All2 (ItAt (TAt 4) (New H1 H6)) vs l := hall.map fun v x h => h.ex (TAt.ex 4) (new_ex exp1)
        walk_at "rd"
        refine ⟨small (by show 1 ≤ 1000000; decide), fun p2 hp2 => ?_⟩
        have exp2 := Evl.Ex.new (o := .lst [.ref p1]) hp2
        have gp2 : (upd H6 p2 (.lst [.ref p1])) p2 = some (.lst [.ref p1]) := upd_same
        generalize upd H6 p2 (.lst [.ref p1]) = H7 at exp2 gp2 ⊢
        have kq7 := kq6.trans (Kq.of exp2)
        have hD7 := hD6.ex' exp2
        have np2 : New H1 H7 p2 = some (.lst [.ref p1]) := new_get (kq6.1 _ hp2) gp2
        replace hb := new_ex (H0 := H1) exp2 _ _ hb
        replace hall : All2 (ItAt (TAt 4) (New H1 H7)) vs l := hall.map fun v x h => h.ex (TAt.ex 4) (new_ex exp2)
        have n1 := new_ex exp2 _ _ np1
        have hb7 : H7 b = some (.lst vs) := new_sub _ _ hb
        walk_at "rd"
        refine ⟨_, _, _, _, rfl, rfl, gp2, hb7, by rw [sizeLine_eq]; show 1 + _ ≤ _; omega, fun p3 hp3 => ?_⟩
        have exp3 := Evl.Ex.new (o := .lst ([.ref p1] ++ vs)) hp3
        have gp3 : (upd H7 p3 (.lst ([.ref p1] ++ vs))) p3 = some (.lst ([.ref p1] ++ vs)) := upd_same
        generalize upd H7 p3 (.lst ([.ref p1] ++ vs)) = H8 at exp3 gp3 ⊢
        have kq8 := kq7.trans (Kq.of exp3)
        have hD8 := hD7.ex' exp3
        have np3 : New H1 H8 p3 = some (.lst ([.ref p1] ++ vs)) := new_get (kq7.1 _ hp3) gp3
        replace hb := new_ex (H0 := H1) exp3 _ _ hb
        replace hall : All2 (ItAt (TAt 4) (New H1 H8)) vs l := hall.map fun v x h => h.ex (TAt.ex 4) (new_ex exp3)
        replace n1 := new_ex exp3 _ _ n1
        walk_at "rd"
        refine ⟨small (by show 2 ≤ 1000000; decide), fun p4 hp4 => ?_⟩
        have exp4 := Evl.Ex.new (o := .tup [.ref p3, .int 0]) hp4
        have gp4 : (upd H8 p4 (.tup [.ref p3, .int 0])) p4 = some (.tup [.ref p3, .int 0]) := upd_same
        generalize upd H8 p4 (.tup [.ref p3, .int 0]) = H9 at exp4 gp4 ⊢
        have kq9 := kq8.trans (Kq.of exp4)
        have hD9 := hD8.ex' exp4
        have np4 : New H1 H9 p4 = some (.tup [.ref p3, .int 0]) := new_get (kq8.1 _ hp4) gp4
        replace hb := new_ex (H0 := H1) exp4 _ _ hb
        replace hall : All2 (ItAt (TAt 4) (New H1 H9)) vs l := hall.map fun v x h => h.ex (TAt.ex 4) (new_ex exp4)
        replace n1 := new_ex exp4 _ _ n1
        have n3 := new_ex exp4 _ _ np3
        walk_at "rd"
        refine ⟨small (by show 1 ≤ 1000000; decide), fun p5 hp5 => ?_⟩
        have exp5 := Evl.Ex.new (o := .lst [.ref p4]) hp5
        have gp5 : (upd H9 p5 (.lst [.ref p4])) p5 = some (.lst [.ref p4]) := upd_same
        generalize upd H9 p5 (.lst [.ref p4]) = G at exp5 gp5 ⊢
        have kqG := kq9.trans (Kq.of exp5)
        have hDG := hD9.ex' exp5
        have np5 : New H1 G p5 = some (.lst [.ref p4]) := new_get (kq9.1 _ hp5) gp5
        replace hb := new_ex (H0 := H1) exp5 _ _ hb
        replace hall : All2 (ItAt (TAt 4) (New H1 G)) vs l := hall.map fun v x h => h.ex (TAt.ex 4) (new_ex exp5)
        replace n1 := new_ex exp5 _ _ n1
        replace n3 := new_ex exp5 _ _ n3
        have n4 := new_ex exp5 _ _ np4
        refine fin G p5 p5 [((lf, .inl ch) :: l, 0)] kqG hDG ⟨p5, [.ref p4], rfl, np5, All2.one ⟨p4, p3, _, rfl, n4, n3, hall.cons (by omega) ⟨p1, rfl, n1⟩⟩⟩ ⟨by simp, fun p hp => ?_⟩ ?_
        · have e : p = ((lf, .inl ch) :: l, 0) := by simpa using hp
          rw [e]
          refine ⟨by simp, fun x hx => ?_, .inl rfl⟩
          rcases List.mem_cons.mp hx with z | z
          · rw [z]; exact ⟨hch, .inr ⟨by show 2 ≤ lf; omega, by show lf ≤ 24; omega⟩⟩
          · exact okp.2.1 x z
        · have h3 := wPart_len (w := wT 4) ((lf, .inl ch) :: l) 0
          rw [List.map_cons, List.flatten_cons, List.length_append] at h3
          have h4 := one_len (w := wT 4) (t := lf) (c := ch)
          show (wPart (wT 4) ((lf, .inl ch) :: l, 0)).length ≤ 1400
          omega
      · walk_at "rd"
        refine ⟨small (by show 2 ≤ 1000000; decide), fun p4 hp4 => ?_⟩
        have exp4 := Evl.Ex.new (o := .tup [.ref b, .int 0]) hp4
        have gp4 : (upd H4 p4 (.tup [.ref b, .int 0])) p4 = some (.tup [.ref b, .int 0]) := upd_same
        generalize upd H4 p4 (.tup [.ref b, .int 0]) = H9 at exp4 gp4 ⊢
        have kq9 := kq4.trans (Kq.of exp4)
        have hD9 := hD4.ex' exp4
        have np4 : New H1 H9 p4 = some (.tup [.ref b, .int 0]) := new_get (kq4.1 _ hp4) gp4
        replace hb := new_ex (H0 := H1) exp4 _ _ hb
        replace hall : All2 (ItAt (TAt 4) (New H1 H9)) vs l := hall.map fun v x h => h.ex (TAt.ex 4) (new_ex exp4)
        walk_at "rd"
        refine ⟨small (by show 1 ≤ 1000000; decide), fun p5 hp5 => ?_⟩
        have exp5 := Evl.Ex.new (o := .lst [.ref p4]) hp5
        have gp5 : (upd H9 p5 (.lst [.ref p4])) p5 = some (.lst [.ref p4]) := upd_same
        generalize upd H9 p5 (.lst [.ref p4]) = G at exp5 gp5 ⊢
        have kqG := kq9.trans (Kq.of exp5)
        have hDG := hD9.ex' exp5
        have np5 : New H1 G p5 = some (.lst [.ref p4]) := new_get (kq9.1 _ hp5) gp5
        replace hb := new_ex (H0 := H1) exp5 _ _ hb
        replace hall : All2 (ItAt (TAt 4) (New H1 G)) vs l := hall.map fun v x h => h.ex (TAt.ex 4) (new_ex exp5)
        have n4 := new_ex exp5 _ _ np4
        refine fin G p5 p5 [(l, 0)] kqG hDG ⟨p5, [.ref p4], rfl, np5, All2.one ⟨p4, b, _, rfl, n4, hb, hall⟩⟩ ⟨by simp, fun p hp => ?_⟩ ?_
        · have e : p = (l, 0) := by simpa using hp
          rw [e]
          exact ⟨okp.1, okp.2.1, .inl rfl⟩
        · have h3 := wPart_len (w := wT 4) l 0
          show (wPart (wT 4) (l, 0)).length ≤ 1400
          omega
end
end Fk

set_option Elab.async false
set_option linter.all false
set_option maxRecDepth 100000
set_option maxHeartbeats 4000000
namespace Fk
open PySem PySem.Spec PyProof.Rows L2 Fg Rt
local macro_rules | `(tactic| walk_at "rd1") => `(tactic| first
  | with_reducible refine r_seq ?_
  | with_reducible refine r_asg ?_
  | with_reducible refine r_gname ?_
  | with_reducible refine r_gsub ?_
  | with_reducible refine r_ret ?_
  | with_reducible refine r_retN ?_
  | with_reducible refine r_next ?_
  | with_reducible refine r_drop ?_
  | with_reducible refine r_ifS ?_
  | with_reducible refine r_if ?_
  | with_reducible refine r_par ?_
  | with_reducible refine r_pair ?_
  | with_reducible refine r_test ?_
  | with_reducible refine r_tB ?_
  | with_reducible refine r_not ?_
  | with_reducible refine r_and ?_
  | with_reducible refine r_or ?_
  | with_reducible refine r_andV ?_
  | with_reducible refine r_orV ?_
  | with_reducible refine r_notV ?_
  | with_reducible refine r_nil ?_
  | with_reducible refine r_cons ?_
  | with_reducible refine r_call ?_
  | with_reducible refine r_callS ?_
  | with_reducible refine r_cb ?_
  | with_reducible refine r_then ?_
  | with_reducible refine r_tup ?_
  | with_reducible refine r_lst ?_
  | with_reducible refine r_sl ?_
  | with_reducible refine r_nopart ?_
  | with_reducible refine r_part ?_
  | with_reducible refine r_lcR1 ?_
  | with_reducible refine r_lcR2 ?_
  | with_reducible refine r_lcL ?_
  | with_reducible refine r_lcT ?_
  | with_reducible refine r_forR1 ?_
  | with_reducible refine r_forR2 ?_
  | with_reducible refine r_forL ?_
  | with_reducible refine r_forT ?_
  | with_reducible refine r_forE ?_
  | with_reducible refine r_strE ?_
  | ((with_reducible refine r_rng1 ?hc ?_); (case hc => omega))
  | ((with_reducible refine r_rng2 ?hc ?_); (case hc => omega))
  | ((with_reducible refine' r_refL ?hc ?_); (case hc => first | assumption | exact Evl.sq_of (by assumption)))
  | ((with_reducible refine' r_refT ?hc ?_); (case hc => first | assumption | exact Evl.st_of (by assumption)))
  | with_reducible refine r_op ?_
  | with_reducible refine r_un ?_
  | with_reducible refine r_chain ?_
  | ((with_reducible refine' r_var ?hv ?_); (case hv => exact rfl))
  | with_reducible refine r_cS ?_
  | with_reducible refine r_cs ?_
  | with_reducible refine r_c ?_
  | with_reducible refine r_yes ?_
  | with_reducible refine r_bm ?_
  | with_reducible refine r_bl ?_
  | with_reducible refine r_in ?_
  | with_reducible refine r_ty ?_
  | with_reducible refine r_I0 ?_
  | ((with_reducible refine r_I ?hc ?_); (case hc => first | assumption | (show (0 : Int) < _; decide) | exact Or.inr ⟨by decide, by decide⟩ | exact Or.inr ⟨by omega, by omega⟩ | exact Or.inl ⟨by decide, by decide⟩ | exact (show CDivW _ _ from ⟨by decide, by decide +kernel⟩) | exact (show CPowW _ _ from ⟨by decide, by decide +kernel⟩) | (show (0 : Int) < _; omega)))
  | with_reducible refine r_U ?_
  | with_reducible refine r_eqI ?_
  | with_reducible refine r_neI ?_
  | with_reducible refine r_eqS ?_
  | with_reducible refine r_neS ?_
  | with_reducible refine r_eqB ?_
  | with_reducible refine r_neB ?_
  | with_reducible refine r_niS ?_
  | with_reducible refine r_inSS ?_
  | ((with_reducible refine r_slSS ?hc ?_); (case hc => first | exact small (by omega) | exact small (by simp; omega)))
  | ((with_reducible refine r_lenS ?hc ?_); (case hc => first | exact small (by omega) | exact small (by simp; omega)))
  | ((with_reducible refine' r_lenL ?hc ?_); (case hc => first | assumption | exact Evl.sq_of (by assumption)))
  | ((with_reducible refine' r_lenT ?hc ?_); (case hc => first | assumption | exact Evl.st_of (by assumption)))
  | ((with_reducible refine' r_ixL ?h1 ?h2 ?h3 ?_); (case h1 => first | assumption | exact Evl.sq_of (by assumption) | exact Evl.sq_of upd_same); (case h2 => first | decide | omega); (case h3 => first | exact rfl | assumption))
  | ((with_reducible refine' r_ixT ?h1 ?h2 ?h3 ?_); (case h1 => first | assumption | exact Evl.st_of (by assumption)); (case h2 => first | decide | omega); (case h3 => first | exact rfl | assumption))
  | with_reducible refine r_T ?_
  | with_reducible refine r_notNn ?_
  | with_reducible refine r_notN_int ?_
  | with_reducible refine r_notN_str ?_
  | with_reducible refine r_notN_ref ?_
  | with_reducible refine r_isNn ?_
  | with_reducible refine r_isN_int ?_
  | with_reducible refine r_isN_str ?_
  | with_reducible refine r_isN_ref ?_
  | ((with_reducible refine' r_isi ?ht ?hk ?_); (case ht => first | exact .base (.int _) | exact .base (.bl _) | exact .base (.str _) | exact .base .non | exact .base (.lst (by assumption)) | exact .base (.tup (by assumption))); (case hk => first | exact kb_int_int | exact kb_int_bool | exact kb_int_str | exact kb_int_list | exact kb_int_tuple | exact kb_bool_int | exact kb_bool_bool | exact kb_bool_str | exact kb_bool_list | exact kb_bool_tuple | exact kb_str_int | exact kb_str_bool | exact kb_str_str | exact kb_str_list | exact kb_str_tuple | exact kb_NoneType_int | exact kb_NoneType_bool | exact kb_NoneType_str | exact kb_NoneType_list | exact kb_NoneType_tuple | exact kb_list_int | exact kb_list_bool | exact kb_list_str | exact kb_list_list | exact kb_list_tuple | exact kb_tuple_int | exact kb_tuple_bool | exact kb_tuple_str | exact kb_tuple_list | exact kb_tuple_tuple))
  | with_reducible refine r_F ?_
  | with_reducible refine r_nT ?_
  | with_reducible refine r_nF ?_
  | with_reducible refine r_mko ?_
  | with_reducible refine r_xf ?_
  | ((with_reducible refine' r_sum ?hc ?_); (case hc => first | assumption | exact Evl.sq_of (by assumption)))
  | ((with_reducible refine' r_setL ?h1 ?h2 ?h3 ?_); (case h1 => first | assumption | exact upd_same); (case h2 => first | decide | omega); (case h3 => first | (show _ < _; decide) | (simp; done)))
  | with_reducible refine r_int ?_
  | with_reducible refine r_abs ?_)
local macro_rules | `(tactic| walk_at "rd") => `(tactic| repeat (walk_at "rd1"))

section
variable {P : Program} {w : World} {K : PySem.W.Frag} {mg : Str → Option Value} {base : Heap}
theorem wPart0 {α : Type} {w : α → List Nat} (l : List (It α)) : (wPart w (l, 0)).length = ((l.map (wItem w)).flatten).length := by
  show ((l.map (wItem w)).flatten ++ []).length = _
  rw [List.append_nil]
abbrev s_l_deep_text : Stmt := topS 43
abbrev N_l_deep_text : List Str := ["_law_draw_here", "_law_parts", "_law_turn", "_law_items", "_law_kind"]
theorem sc_l_deep_text : FnScope ["_law_draw_here", "_law_parts", "_law_turn", "_law_items", "_law_kind"] ["_law_draw_here"] (defScope s_l_deep_text) := ⟨rfl, rfl, rfl, by decide +kernel, rfl, by decide +kernel, by decide +kernel⟩
theorem can_l_deep_text (T : Bi mg) (F : Defd K mg "_law_deep_text" s_l_deep_text ["_law_draw_here"]) {k : Nat} (hk : 3 ≤ k) (C_l_pick : Can P w K mg base L2.CX0 2 "_law_pick" ["_law_draw_here", "_law_many"] spPick) (C_l_sign : Can P w K mg base L2.CX0 3 "_law_sign" ["_law_draw_here"] spSign) (C_l_room_text : Can P w K mg base L2.CX0 k "_law_room_text" ["_law_draw_here", "_law_room", "_law_depth", "_law_tally"] (spRoomText 1)) : Can P w K mg base L2.CX0 (k + 1) "_law_deep_text" ["_law_draw_here"] (spText 1400) := by
  refine can0 F sc_l_deep_text (fun vs H Q E h => ?_) (fun f cdv A outer s H vs Q E hr h => ⟨_, (pss_cons (ps_set (i := 1) sc_l_deep_text.nd rfl (by first | exact Or.inl rfl | exact Or.inr rfl) (pe_can C_l_room_text hr (by omega) rfl (pa_cons (pv 0) (pa_cons pe_int (pa_cons pe_int (pa_cons (pe_lst pa_nil) pa_nil))))))
  (pss_cons (ps_for PassesOwn.never rfl (pi_range1 rfl T.b_range (pa_cons (pe_op op_add pe_int (pe_can C_l_pick hr (by omega) rfl (pa_cons (pv 0) (pa_cons pe_int pa_nil)))) pa_nil)) (pg_name (i := 2) sc_l_deep_text.nd rfl (by first | exact Or.inl rfl | exact Or.inr rfl))
    (pss_cons (ps_set (i := 3) sc_l_deep_text.nd rfl (by first | exact Or.inl rfl | exact Or.inr rfl) (pe_lst (pa_cons (pe_tup (pa_cons (pe_ix ix_list (pe_lst (pa_cons pe_int (pa_cons pe_int (pa_cons pe_int (pa_cons pe_int (pa_cons pe_int pa_nil)))))) (pe_can C_l_pick hr (by omega) rfl (pa_cons (pv 0) (pa_cons pe_int pa_nil))) (fun _ _ => rfl)) (pa_cons (pv 1) pa_nil))) pa_nil)))
  (pss_cons (ps_set (i := 4) sc_l_deep_text.nd rfl (by first | exact Or.inl rfl | exact Or.inr rfl) (pe_can C_l_pick hr (by omega) rfl (pa_cons (pv 0) (pa_cons pe_int pa_nil))))
  (Evl.pss_cut (ps_if (pt_cmpR op_eq (pv 4) pe_int (nomark _)) (pss_one (ps_set (i := 3) sc_l_deep_text.nd rfl (by first | exact Or.inl rfl | exact Or.inr rfl) (pe_op op_cat (pe_lst (pa_cons (pe_tup (pa_cons pe_int (pa_cons (pe_can C_l_sign hr (by omega) rfl (pa_cons (pv 0) pa_nil)) pa_nil))) pa_nil)) (pv 3)))) pss_nil)
  (Evl.pss_cut (ps_if (pt_cmpR op_eq (pv 4) pe_int (nomark _)) (pss_one (ps_set (i := 3) sc_l_deep_text.nd rfl (by first | exact Or.inl rfl | exact Or.inr rfl) (pe_op op_cat (pv 3) (pe_lst (pa_cons (pe_tup (pa_cons pe_int (pa_cons (pe_can C_l_sign hr (by omega) rfl (pa_cons (pv 0) pa_nil)) pa_nil))) pa_nil))))) pss_nil)
  (pss_cons (ps_set (i := 1) sc_l_deep_text.nd rfl (by first | exact Or.inl rfl | exact Or.inr rfl) (pe_lst (pa_cons (pe_tup (pa_cons (pv 3) (pa_cons pe_int pa_nil))) pa_nil)))
  (pss_cons (ps_if (pt_cmpR op_eq (pv 4) pe_int (nomark _)) (pss_one (ps_set (i := 1) sc_l_deep_text.nd rfl (by first | exact Or.inl rfl | exact Or.inr rfl) (pe_lst (pa_cons (pe_tup (pa_cons (pe_lst (pa_cons (pe_tup (pa_cons pe_int (pa_cons (pe_can C_l_sign hr (by omega) rfl (pa_cons (pv 0) pa_nil)) pa_nil))) pa_nil)) (pa_cons pe_int pa_nil))) (pa_cons (pe_tup (pa_cons (pv 3) (pa_cons pe_int pa_nil))) pa_nil))))) pss_nil)
  (pss_one (ps_if (pt_cmpR op_eq (pv 4) pe_int (nomark _)) (pss_one (ps_set (i := 1) sc_l_deep_text.nd rfl (by first | exact Or.inl rfl | exact Or.inr rfl) (pe_lst (pa_cons (pe_tup (pa_cons (pv 3) (pa_cons pe_int pa_nil))) (pa_cons (pe_tup (pa_cons (pe_lst (pa_cons (pe_tup (pa_cons pe_int (pa_cons (pe_can C_l_sign hr (by omega) rfl (pa_cons (pv 0) pa_nil)) pa_nil))) (pa_cons (pe_tup (pa_cons pe_int (pa_cons (pe_can C_l_sign hr (by omega) rfl (pa_cons (pv 0) pa_nil)) pa_nil))) pa_nil))) (pa_cons pe_int pa_nil))) pa_nil))))) pss_nil)))))))))
  (pss_one (ps_ret (pv 1))))), ?_⟩)
  · obtain ⟨_, _, _, rfl, _⟩ := h
    rfl
  · obtain ⟨c, d, ns, rfl, hD, q⟩ := h
    have Hd : H d ≠ none := hD.some
    walk_at "rd"
    refine ⟨small (by show 0 ≤ 1000000; decide), fun t ht => ?_⟩
    have td : t ≠ d := hD.nd ht
    have tc : t ≠ c := hD.nc ht
    have exT := Evl.Ex.new (o := .lst []) ht
    have gT : (upd H t (.lst [])) t = some (.lst []) := upd_same
    obtain ⟨H1, hH1⟩ : ∃ H1, H1 = upd H t (.lst []) := ⟨_, rfl⟩
    rw [← hH1] at exT gT ⊢
    have hD1 := hD.ex' exT
    have hT1 : Tally t 0 H1 := gT
    have Hd1 : H1 d ≠ none := hD1.some
    have Ht1 : H1 t ≠ none := fun z => by rw [gT] at z; cases z
    walk_at "rd"
    refine ⟨c, d, t, 3, 4, 0, ns, rfl, hD1, hT1, td, tc, by decide, by decide, by decide, by decide, by decide, fun v0 x0 k1 H2 M hx0 ok0 cx0 len0 k1lt k1le => ?_⟩
    have hD2 := M.dr
    have kq2 := Kq.drop ht hH1 M.kq
    have hx2 := TAt.ex 1 _ _ _ _ (new_keep (Grow.ex exT) (Kq.refl d t H2) Hd1 Ht1) hx0
    clear hT1 hD1 hx0
    walk_at "rd"
    refine ⟨c, d, 6, ns, rfl, hD2, by decide, fun m H3 m0 m1 kp3 hD3 => ?_⟩
    have kqP := Kq.pick (t := d) kp3 hD3
    have kq3 := kq2.trans kqP
    have hx3 := TAt.ex 1 _ _ _ _ (new_keep (Grow.refl H) kqP Hd Hd) hx2
    walk_at "rd"
    refine forR (fun i σ' H' => ∃ (n : Nat) (x : Rt.T n) (v : V) (o2 o3 o4 : Option V), σ' = [some (.ref d), some v, o2, o3, o4] ∧ n = 1 + i ∧ Kq d d H H' ∧ Dr ns c d H' ∧ TAt n (New H H') v x ∧ okT n x ∧ (wT n x).length ≤ 400 + 30 * i)
      ⟨1, x0, v0, _, _, _, rfl, rfl, kq3, hD3, hx3, ok0, by omega⟩ (fun i σ' H4 hi hJ => ?_) (fun σ' H4 hJ => ?_)
    · obtain ⟨n, x, v, o2, o3, o4, rfl, hn, kqa, hDa, hx, ok, hlen⟩ := hJ
      clear hx3 hx2 kqP kq3 hD3 kp3 kq2 hD2
      walk_at "rd"
      refine ⟨small (by show 5 ≤ 1000000; decide), fun G hG => ?_⟩
      have Gd : G ≠ d := hDa.nd hG
      have exG := Evl.Ex.new (o := .lst [.int 2, .int 2, .int 2, .int 3, .int 24]) hG
      have gG : (upd H4 G (.lst [.int 2, .int 2, .int 2, .int 3, .int 24])) G = some (.lst [.int 2, .int 2, .int 2, .int 3, .int 24]) := upd_same
      generalize upd H4 G (.lst [.int 2, .int 2, .int 2, .int 3, .int 24]) = H5 at exG gG ⊢
      have kqb := kqa.trans (Kq.of exG)
      have hDb := hDa.ex' exG
      have nG : New H H5 G = some (.lst [.int 2, .int 2, .int 2, .int 3, .int 24]) := new_get (kqa.1 _ hG) gG
      have nkG := new_ex (H0 := H) exG
      replace hx := TAt.ex n _ _ _ _ nkG hx
      walk_at "rd"
      refine ⟨c, d, 5, ns, rfl, hDb, by decide, fun ze H6 ze0 ze1 kpe hDe => ?_⟩
      have kqPe := Kq.pick (t := d) kpe hDe
      have kqe := kqb.trans kqPe
      have nkPe := new_keep (Grow.refl H) kqPe Hd Hd
      replace hx := TAt.ex n _ _ _ _ nkPe hx
      have gG6 := kpe _ _ Gd gG
      obtain ⟨e, he, he2, he3⟩ : ∃ e : Nat, ([.int 2, .int 2, .int 2, .int 3, .int 24] : List V)[ze.toNat]? = some (.int (e : Int)) ∧ 2 ≤ e ∧ e ≤ 24 := by
        have m5 : ze.toNat < 5 := by omega
        generalize ze.toNat = a at m5
        match a, m5 with
        | 0, _ => exact ⟨2, rfl, by decide, by decide⟩
        | 1, _ => exact ⟨2, rfl, by decide, by decide⟩
        | 2, _ => exact ⟨2, rfl, by decide, by decide⟩
        | 3, _ => exact ⟨3, rfl, by decide, by decide⟩
        | 4, _ => exact ⟨24, rfl, by decide, by decide⟩
      walk_at "rd"
      refine ⟨small (by show 2 ≤ 1000000; decide), fun pa hpa => ?_⟩
      have expa := Evl.Ex.new (o := .tup [.int (e : Int), v]) hpa
      have gpa : (upd H6 pa (.tup [.int (e : Int), v])) pa = some (.tup [.int (e : Int), v]) := upd_same
      generalize upd H6 pa (.tup [.int (e : Int), v]) = H7 at expa gpa ⊢
      have kqf := kqe.trans (Kq.of expa)
      have hDf := hDe.ex' expa
      have npa : New H H7 pa = some (.tup [.int (e : Int), v]) := new_get (kqe.1 _ hpa) gpa
      have nkpa := new_ex (H0 := H) expa
      replace hx := TAt.ex n _ _ _ _ nkpa hx
      walk_at "rd"
      refine ⟨small (by show 1 ≤ 1000000; decide), fun pb hpb => ?_⟩
      have expb := Evl.Ex.new (o := .lst [.ref pa]) hpb
      have gpb : (upd H7 pb (.lst [.ref pa])) pb = some (.lst [.ref pa]) := upd_same
      generalize upd H7 pb (.lst [.ref pa]) = H8 at expb gpb ⊢
      have kqg := kqf.trans (Kq.of expb)
      have hDg := hDf.ex' expb
      have npb : New H H8 pb = some (.lst [.ref pa]) := new_get (kqf.1 _ hpb) gpb
      have nkpb := new_ex (H0 := H) expb
      replace npa := nkpb _ _ npa
      replace hx := TAt.ex n _ _ _ _ nkpb hx
      walk_at "rd"
      refine ⟨c, d, 8, ns, rfl, hDg, by decide, fun z0 G0 z00 z01 kp0 hD0 => ?_⟩
      have kqP0 := Kq.pick (t := d) kp0 hD0
      have kq0 := kqg.trans kqP0
      have nkP0 := new_keep (Grow.refl H) kqP0 Hd Hd
      replace npa := nkP0 _ _ npa
      replace npb := nkP0 _ _ npb
      replace hx := TAt.ex n _ _ _ _ nkP0 hx
      let Mid : Nat → L2.St → Hp → Prop := fun B σ' H' => ∃ (b : Addr) (vs : List V) (l : List (It (Rt.T n))), σ' = [some (.ref d), some v, some (.int ((0 : Int) + (i : Int))), some (.ref b), some (.int z0)] ∧ Kq d d H H' ∧ Dr ns c d H' ∧ New H H' b = some (.lst vs) ∧ All2 (ItAt (TAt n) (New H H')) vs l ∧ l ≠ [] ∧ (∀ x ∈ l, okItem (okT n) x) ∧ ((l.map (wItem (wT n))).flatten).length ≤ B
      walk_at "rd"
      refine r_cut (Mid := Mid (407 + 30 * i)) ?_ (fun σ' G0 hM => ?_)
      · have hall : All2 (ItAt (TAt n) (New H G0)) [.ref pa] [(e, .inr x)] := All2.one ⟨pa, rfl, v, npa, hx⟩
        have hok : ∀ y ∈ ([(e, .inr x)] : List (It (Rt.T n))), okItem (okT n) y := fun y hy => by
          have : y = (e, .inr x) := by simpa using hy
          rw [this]; exact ⟨he2, he3, ok⟩
        have hl4 : (([(e, .inr x)] : List (It (Rt.T n))).map (wItem (wT n))).flatten.length ≤ 404 + 30 * i := by
          have e1 : (([(e, .inr x)] : List (It (Rt.T n))).map (wItem (wT n))).flatten = (if 0 < e then digs e else []) ++ 40 :: (wT n x ++ [41]) := by
            show wItem (wT n) (e, .inr x) ++ [] = _
            rw [List.append_nil]
            rfl
          have := digs_len e
          rw [e1, if_pos (by omega), List.length_append, List.length_cons, List.length_append]
          show _ + (_ + 1 + 1) ≤ _
          omega
        have hb := npb
        generalize ([.ref pa] : List V) = vs at hall hb
        generalize ([(e, .inr x)] : List (It (Rt.T n))) = l at hall hok hl4
        have ll := len_items (w := wT n) l
        have hvs : vs.length = l.length := hall.1
        walk_at "rd"
        refine r_ite (fun h0 => ?_) (fun h0 => ?_)
        · walk_at "rd"
          refine ⟨c, d, ns, rfl, hD0, fun ch G1 hch kp1 hD1 => ?_⟩
          have kqP1 := Kq.pick (t := d) kp1 hD1
          have kq1 := kq0.trans kqP1
          have nkP1 := new_keep (Grow.refl H) kqP1 Hd Hd
          replace hb := nkP1 _ _ hb
          replace hall : All2 (ItAt (TAt n) (New H G1)) vs l := hall.map fun v x h => h.ex (TAt.ex n) nkP1
          walk_at "rd"
          refine ⟨small (by show 2 ≤ 1000000; decide), fun p1 hp1 => ?_⟩
          have exp1 := Evl.Ex.new (o := .tup [.int 0, .str (S [ch])]) hp1
          have gp1 : (upd G1 p1 (.tup [.int 0, .str (S [ch])])) p1 = some (.tup [.int 0, .str (S [ch])]) := upd_same
          generalize upd G1 p1 (.tup [.int 0, .str (S [ch])]) = G2 at exp1 gp1 ⊢
          have kq2 := kq1.trans (Kq.of exp1)
          have hD2 := hD1.ex' exp1
          have np1 : New H G2 p1 = some (.tup [.int 0, .str (S [ch])]) := new_get (kq1.1 _ hp1) gp1
          have nkp1 := new_ex (H0 := H) exp1
          replace hb := nkp1 _ _ hb
          replace hall : All2 (ItAt (TAt n) (New H G2)) vs l := hall.map fun v x h => h.ex (TAt.ex n) nkp1
          walk_at "rd"
          refine ⟨small (by show 1 ≤ 1000000; decide), fun p2 hp2 => ?_⟩
          have exp2 := Evl.Ex.new (o := .lst [.ref p1]) hp2
          have gp2 : (upd G2 p2 (.lst [.ref p1])) p2 = some (.lst [.ref p1]) := upd_same
          generalize upd G2 p2 (.lst [.ref p1]) = G3 at exp2 gp2 ⊢
          have kq3 := kq2.trans (Kq.of exp2)
          have hD3 := hD2.ex' exp2
          have np2 : New H G3 p2 = some (.lst [.ref p1]) := new_get (kq2.1 _ hp2) gp2
          have nkp2 := new_ex (H0 := H) exp2
          replace hb := nkp2 _ _ hb
          replace np1 := nkp2 _ _ np1
          replace hall : All2 (ItAt (TAt n) (New H G3)) vs l := hall.map fun v x h => h.ex (TAt.ex n) nkp2
          have hbG := new_sub _ _ hb
          walk_at "rd"
          refine ⟨_, _, _, _, rfl, rfl, gp2, hbG, by rw [sizeLine_eq]; show 1 + _ ≤ _; omega, fun p3 hp3 => ?_⟩
          have exp3 := Evl.Ex.new (o := .lst ([.ref p1] ++ vs)) hp3
          have gp3 : (upd G3 p3 (.lst ([.ref p1] ++ vs))) p3 = some (.lst ([.ref p1] ++ vs)) := upd_same
          generalize upd G3 p3 (.lst ([.ref p1] ++ vs)) = G4 at exp3 gp3 ⊢
          have kq4 := kq3.trans (Kq.of exp3)
          have hD4 := hD3.ex' exp3
          have np3 : New H G4 p3 = some (.lst ([.ref p1] ++ vs)) := new_get (kq3.1 _ hp3) gp3
          have nkp3 := new_ex (H0 := H) exp3
          replace np1 := nkp3 _ _ np1
          replace hall : All2 (ItAt (TAt n) (New H G4)) vs l := hall.map fun v x h => h.ex (TAt.ex n) nkp3
          walk_at "rd"
          refine ⟨p3, _, ((0, .inl ch) :: l), rfl, kq4, hD4, np3, hall.cons (by omega) ⟨p1, rfl, np1⟩, by simp, fun x hx => ?_, ?_⟩
          · rcases List.mem_cons.mp hx with z | z
            · rw [z]; exact ⟨hch, .inl rfl⟩
            · exact hok x z
          · have h4 := one_len (w := wT n) (t := 0) (c := ch)
            rw [List.map_cons, List.flatten_cons, List.length_append]
            omega
        · walk_at "rd"
          refine ⟨pb, vs, l, rfl, kq0, hD0, hb, hall, fun z => ?_, hok, by omega⟩
          subst z
          have : vs = [] := List.length_eq_zero_iff.mp hvs
          rw [this] at hb
          rw [npb] at hb
          cases hb
      clear kq0 hD0 npa npb hx
      obtain ⟨b, vs, l, rfl, kq0, hD0, hb, hall, hne, hok, hl4⟩ := hM
      walk_at "rd"
      refine r_cut (Mid := Mid (410 + 30 * i)) ?_ (fun σ' G0 hM => ?_)
      · have ll := len_items (w := wT n) l
        have hvs : vs.length = l.length := hall.1
        walk_at "rd"
        refine r_ite (fun h0 => ?_) (fun h0 => ?_)
        · walk_at "rd"
          refine ⟨c, d, ns, rfl, hD0, fun ch G1 hch kp1 hD1 => ?_⟩
          have kqP1 := Kq.pick (t := d) kp1 hD1
          have kq1 := kq0.trans kqP1
          have nkP1 := new_keep (Grow.refl H) kqP1 Hd Hd
          replace hb := nkP1 _ _ hb
          replace hall : All2 (ItAt (TAt n) (New H G1)) vs l := hall.map fun v x h => h.ex (TAt.ex n) nkP1
          walk_at "rd"
          refine ⟨small (by show 2 ≤ 1000000; decide), fun p1 hp1 => ?_⟩
          have exp1 := Evl.Ex.new (o := .tup [.int 2, .str (S [ch])]) hp1
          have gp1 : (upd G1 p1 (.tup [.int 2, .str (S [ch])])) p1 = some (.tup [.int 2, .str (S [ch])]) := upd_same
          generalize upd G1 p1 (.tup [.int 2, .str (S [ch])]) = G2 at exp1 gp1 ⊢
          have kq2 := kq1.trans (Kq.of exp1)
          have hD2 := hD1.ex' exp1
          have np1 : New H G2 p1 = some (.tup [.int 2, .str (S [ch])]) := new_get (kq1.1 _ hp1) gp1
          have nkp1 := new_ex (H0 := H) exp1
          replace hb := nkp1 _ _ hb
          replace hall : All2 (ItAt (TAt n) (New H G2)) vs l := hall.map fun v x h => h.ex (TAt.ex n) nkp1
          walk_at "rd"
          refine ⟨small (by show 1 ≤ 1000000; decide), fun p2 hp2 => ?_⟩
          have exp2 := Evl.Ex.new (o := .lst [.ref p1]) hp2
          have gp2 : (upd G2 p2 (.lst [.ref p1])) p2 = some (.lst [.ref p1]) := upd_same
          generalize upd G2 p2 (.lst [.ref p1]) = G3 at exp2 gp2 ⊢
          have kq3 := kq2.trans (Kq.of exp2)
          have hD3 := hD2.ex' exp2
          have np2 : New H G3 p2 = some (.lst [.ref p1]) := new_get (kq2.1 _ hp2) gp2
          have nkp2 := new_ex (H0 := H) exp2
          replace hb := nkp2 _ _ hb
          replace np1 := nkp2 _ _ np1
          replace hall : All2 (ItAt (TAt n) (New H G3)) vs l := hall.map fun v x h => h.ex (TAt.ex n) nkp2
          have hbG := new_sub _ _ hb
          walk_at "rd"
          refine ⟨_, _, _, _, rfl, rfl, hbG, gp2, by rw [sizeLine_eq]; show _ + 1 ≤ _; omega, fun p3 hp3 => ?_⟩
          have exp3 := Evl.Ex.new (o := .lst (vs ++ [.ref p1])) hp3
          have gp3 : (upd G3 p3 (.lst (vs ++ [.ref p1]))) p3 = some (.lst (vs ++ [.ref p1])) := upd_same
          generalize upd G3 p3 (.lst (vs ++ [.ref p1])) = G4 at exp3 gp3 ⊢
          have kq4 := kq3.trans (Kq.of exp3)
          have hD4 := hD3.ex' exp3
          have np3 : New H G4 p3 = some (.lst (vs ++ [.ref p1])) := new_get (kq3.1 _ hp3) gp3
          have nkp3 := new_ex (H0 := H) exp3
          replace np1 := nkp3 _ _ np1
          replace hall : All2 (ItAt (TAt n) (New H G4)) vs l := hall.map fun v x h => h.ex (TAt.ex n) nkp3
          walk_at "rd"
          refine ⟨p3, _, (l ++ [(2, .inl ch)]), rfl, kq4, hD4, np3, hall.snoc (by omega) ⟨p1, rfl, np1⟩, by simp, fun x hx => ?_, ?_⟩
          · rcases List.mem_append.mp hx with z | z
            · exact hok x z
            · have : x = (2, .inl ch) := by simpa using z
              rw [this]; exact ⟨hch, .inr ⟨by show 2 ≤ 2; decide, by show 2 ≤ 24; decide⟩⟩
          · have h4 : (([(2, .inl ch)] : List (It (Rt.T n))).map (wItem (wT n))).flatten.length ≤ 3 := by
              have e : (([(2, .inl ch)] : List (It (Rt.T n))).map (wItem (wT n))).flatten = wItem (wT n) (2, .inl ch) := by simp
              rw [e]; exact one_len
            rw [List.map_append, List.flatten_append, List.length_append]
            omega
        · walk_at "rd"
          exact ⟨b, vs, l, rfl, kq0, hD0, hb, hall, hne, hok, by omega⟩
      clear kq0 hD0 hb hall hne hok hl4
      obtain ⟨b, vs, l, rfl, kq0, hD0, hb, hall, hne, hok, hl4⟩ := hM
      have okP : okPart (okT n) (cT n) (l, 0) := ⟨hne, hok, .inl rfl⟩
      have lP := wPart0 (w := wT n) l
      walk_at "rd"
      refine ⟨small (by show 2 ≤ 1000000; decide), fun pA hpA => ?_⟩
      have expA := Evl.Ex.new (o := .tup [.ref b, .int 0]) hpA
      have gpA : (upd G0 pA (.tup [.ref b, .int 0])) pA = some (.tup [.ref b, .int 0]) := upd_same
      generalize upd G0 pA (.tup [.ref b, .int 0]) = G1 at expA gpA ⊢
      have kq1 := kq0.trans (Kq.of expA)
      have hD1 := hD0.ex' expA
      have npA : New H G1 pA = some (.tup [.ref b, .int 0]) := new_get (kq0.1 _ hpA) gpA
      have nkpA := new_ex (H0 := H) expA
      replace hb := nkpA _ _ hb
      replace hall : All2 (ItAt (TAt n) (New H G1)) vs l := hall.map fun v x h => h.ex (TAt.ex n) nkpA
      walk_at "rd"
      refine ⟨small (by show 1 ≤ 1000000; decide), fun pB hpB => ?_⟩
      have expB := Evl.Ex.new (o := .lst [.ref pA]) hpB
      have gpB : (upd G1 pB (.lst [.ref pA])) pB = some (.lst [.ref pA]) := upd_same
      generalize upd G1 pB (.lst [.ref pA]) = G2 at expB gpB ⊢
      have kq2 := kq1.trans (Kq.of expB)
      have hD2 := hD1.ex' expB
      have npB : New H G2 pB = some (.lst [.ref pA]) := new_get (kq1.1 _ hpB) gpB
      have nkpB := new_ex (H0 := H) expB
      replace hb := nkpB _ _ hb
      replace npA := nkpB _ _ npA
      replace hall : All2 (ItAt (TAt n) (New H G2)) vs l := hall.map fun v x h => h.ex (TAt.ex n) nkpB
      walk_at "rd"
      refine r_ite (fun h2 => ?_) (fun h2 => ?_)
      · walk_at "rd"
        refine ⟨c, d, ns, rfl, hD2, fun ch G3 hch kp3 hD3 => ?_⟩
        have kqP3 := Kq.pick (t := d) kp3 hD3
        have kq3 := kq2.trans kqP3
        have nkP3 := new_keep (Grow.refl H) kqP3 Hd Hd
        replace hb := nkP3 _ _ hb
        replace hall : All2 (ItAt (TAt n) (New H G3)) vs l := hall.map fun v x h => h.ex (TAt.ex n) nkP3
        walk_at "rd"
        refine ⟨small (by show 2 ≤ 1000000; decide), fun p1 hp1 => ?_⟩
        have exp1 := Evl.Ex.new (o := .tup [.int 0, .str (S [ch])]) hp1
        have gp1 : (upd G3 p1 (.tup [.int 0, .str (S [ch])])) p1 = some (.tup [.int 0, .str (S [ch])]) := upd_same
        generalize upd G3 p1 (.tup [.int 0, .str (S [ch])]) = G4 at exp1 gp1 ⊢
        have kq4 := kq3.trans (Kq.of exp1)
        have hD4 := hD3.ex' exp1
        have np1 : New H G4 p1 = some (.tup [.int 0, .str (S [ch])]) := new_get (kq3.1 _ hp1) gp1
        have nkp1 := new_ex (H0 := H) exp1
        replace hb := nkp1 _ _ hb
        replace hall : All2 (ItAt (TAt n) (New H G4)) vs l := hall.map fun v x h => h.ex (TAt.ex n) nkp1
        walk_at "rd"
        refine ⟨small (by show 1 ≤ 1000000; decide), fun p2 hp2 => ?_⟩
        have exp2 := Evl.Ex.new (o := .lst [.ref p1]) hp2
        have gp2 : (upd G4 p2 (.lst [.ref p1])) p2 = some (.lst [.ref p1]) := upd_same
        generalize upd G4 p2 (.lst [.ref p1]) = G5 at exp2 gp2 ⊢
        have kq5 := kq4.trans (Kq.of exp2)
        have hD5 := hD4.ex' exp2
        have np2 : New H G5 p2 = some (.lst [.ref p1]) := new_get (kq4.1 _ hp2) gp2
        have nkp2 := new_ex (H0 := H) exp2
        replace hb := nkp2 _ _ hb
        replace np1 := nkp2 _ _ np1
        replace hall : All2 (ItAt (TAt n) (New H G5)) vs l := hall.map fun v x h => h.ex (TAt.ex n) nkp2
        walk_at "rd"
        refine ⟨small (by show 2 ≤ 1000000; decide), fun p3 hp3 => ?_⟩
        have exp3 := Evl.Ex.new (o := .tup [.ref p2, .int 0]) hp3
        have gp3 : (upd G5 p3 (.tup [.ref p2, .int 0])) p3 = some (.tup [.ref p2, .int 0]) := upd_same
        generalize upd G5 p3 (.tup [.ref p2, .int 0]) = G6 at exp3 gp3 ⊢
        have kq6 := kq5.trans (Kq.of exp3)
        have hD6 := hD5.ex' exp3
        have np3 : New H G6 p3 = some (.tup [.ref p2, .int 0]) := new_get (kq5.1 _ hp3) gp3
        have nkp3 := new_ex (H0 := H) exp3
        replace hb := nkp3 _ _ hb
        replace np1 := nkp3 _ _ np1
        replace np2 := nkp3 _ _ np2
        replace hall : All2 (ItAt (TAt n) (New H G6)) vs l := hall.map fun v x h => h.ex (TAt.ex n) nkp3
        walk_at "rd"
        refine ⟨small (by show 2 ≤ 1000000; decide), fun p4 hp4 => ?_⟩
        have exp4 := Evl.Ex.new (o := .tup [.ref b, .int 0]) hp4
        have gp4 : (upd G6 p4 (.tup [.ref b, .int 0])) p4 = some (.tup [.ref b, .int 0]) := upd_same
        generalize upd G6 p4 (.tup [.ref b, .int 0]) = G7 at exp4 gp4 ⊢
        have kq7 := kq6.trans (Kq.of exp4)
        have hD7 := hD6.ex' exp4
        have np4 : New H G7 p4 = some (.tup [.ref b, .int 0]) := new_get (kq6.1 _ hp4) gp4
        have nkp4 := new_ex (H0 := H) exp4
        replace hb := nkp4 _ _ hb
        replace np1 := nkp4 _ _ np1
        replace np2 := nkp4 _ _ np2
        replace np3 := nkp4 _ _ np3
        replace hall : All2 (ItAt (TAt n) (New H G7)) vs l := hall.map fun v x h => h.ex (TAt.ex n) nkp4
        walk_at "rd"
        refine ⟨small (by show 2 ≤ 1000000; decide), fun p5 hp5 => ?_⟩
        have exp5 := Evl.Ex.new (o := .lst [.ref p3, .ref p4]) hp5
        have gp5 : (upd G7 p5 (.lst [.ref p3, .ref p4])) p5 = some (.lst [.ref p3, .ref p4]) := upd_same
        generalize upd G7 p5 (.lst [.ref p3, .ref p4]) = G8 at exp5 gp5 ⊢
        have kq8 := kq7.trans (Kq.of exp5)
        have hD8 := hD7.ex' exp5
        have np5 : New H G8 p5 = some (.lst [.ref p3, .ref p4]) := new_get (kq7.1 _ hp5) gp5
        have nkp5 := new_ex (H0 := H) exp5
        replace hb := nkp5 _ _ hb
        replace np1 := nkp5 _ _ np1
        replace np2 := nkp5 _ _ np2
        replace np3 := nkp5 _ _ np3
        replace np4 := nkp5 _ _ np4
        replace hall : All2 (ItAt (TAt n) (New H G8)) vs l := hall.map fun v x h => h.ex (TAt.ex n) nkp5
        walk_at "rd"
        refine r_ite (fun h3 => by omega) (fun h3 => ?_)
        walk_at "rd"
        refine ⟨n + 1, (show Rt.T (n + 1) from [([(0, .inl ch)], 0), (l, 0)]), .ref p5, _, _, _, rfl, by omega, kq8, hD8, ⟨p5, _, rfl, np5, All2.two ⟨p3, p2, _, rfl, np3, np2, All2.one ⟨p1, rfl, np1⟩⟩ ⟨p4, b, vs, rfl, np4, hb, hall⟩⟩, ⟨by simp, fun p hp => ?_⟩, ?_⟩
        · rcases List.mem_cons.mp hp with z | z
          · rw [z]
            refine ⟨by simp, fun y hy => ?_, .inl rfl⟩
            have : y = (0, .inl ch) := by simpa using hy
            rw [this]; exact ⟨hch, .inl rfl⟩
          · have : p = (l, 0) := by simpa using z
            rw [this]; exact okP
        · have l1 := wPart_len (w := wT n) [(0, .inl ch)] 0
          have l2 : (([(0, .inl ch)] : List (It (Rt.T n))).map (wItem (wT n))).flatten.length ≤ 3 := by
            show (wItem (wT n) (0, .inl ch) ++ []).length ≤ 3
            rw [List.append_nil]; exact one_len
          show (wPart (wT n) ([(0, .inl ch)], 0) ++ 38 :: wPart (wT n) (l, 0)).length ≤ _
          rw [List.length_append, List.length_cons]
          omega
      · walk_at "rd"
        refine r_ite (fun h3 => ?_) (fun h3 => ?_)
        · walk_at "rd"
          refine ⟨small (by show 2 ≤ 1000000; decide), fun p1 hp1 => ?_⟩
          have exp1 := Evl.Ex.new (o := .tup [.ref b, .int 0]) hp1
          have gp1 : (upd G2 p1 (.tup [.ref b, .int 0])) p1 = some (.tup [.ref b, .int 0]) := upd_same
          generalize upd G2 p1 (.tup [.ref b, .int 0]) = G3 at exp1 gp1 ⊢
          have kq3 := kq2.trans (Kq.of exp1)
          have hD3 := hD2.ex' exp1
          have np1 : New H G3 p1 = some (.tup [.ref b, .int 0]) := new_get (kq2.1 _ hp1) gp1
          have nkp1 := new_ex (H0 := H) exp1
          replace hb := nkp1 _ _ hb
          replace hall : All2 (ItAt (TAt n) (New H G3)) vs l := hall.map fun v x h => h.ex (TAt.ex n) nkp1
          walk_at "rd"
          refine ⟨c, d, ns, rfl, hD3, fun ch G4 hch kp4 hD4 => ?_⟩
          have kqP4 := Kq.pick (t := d) kp4 hD4
          have kq4 := kq3.trans kqP4
          have nkP4 := new_keep (Grow.refl H) kqP4 Hd Hd
          replace hb := nkP4 _ _ hb
          replace np1 := nkP4 _ _ np1
          replace hall : All2 (ItAt (TAt n) (New H G4)) vs l := hall.map fun v x h => h.ex (TAt.ex n) nkP4
          walk_at "rd"
          refine ⟨small (by show 2 ≤ 1000000; decide), fun p2 hp2 => ?_⟩
          have exp2 := Evl.Ex.new (o := .tup [.int 0, .str (S [ch])]) hp2
          have gp2 : (upd G4 p2 (.tup [.int 0, .str (S [ch])])) p2 = some (.tup [.int 0, .str (S [ch])]) := upd_same
          generalize upd G4 p2 (.tup [.int 0, .str (S [ch])]) = G5 at exp2 gp2 ⊢
          have kq5 := kq4.trans (Kq.of exp2)
          have hD5 := hD4.ex' exp2
          have np2 : New H G5 p2 = some (.tup [.int 0, .str (S [ch])]) := new_get (kq4.1 _ hp2) gp2
          have nkp2 := new_ex (H0 := H) exp2
          replace hb := nkp2 _ _ hb
          replace np1 := nkp2 _ _ np1
          replace hall : All2 (ItAt (TAt n) (New H G5)) vs l := hall.map fun v x h => h.ex (TAt.ex n) nkp2
          walk_at "rd"
          refine ⟨c, d, ns, rfl, hD5, fun cg G6 hcg kp6 hD6 => ?_⟩
          have kqP6 := Kq.pick (t := d) kp6 hD6
          have kq6 := kq5.trans kqP6
          have nkP6 := new_keep (Grow.refl H) kqP6 Hd Hd
          replace hb := nkP6 _ _ hb
          replace np1 := nkP6 _ _ np1
          replace np2 := nkP6 _ _ np2
          replace hall : All2 (ItAt (TAt n) (New H G6)) vs l := hall.map fun v x h => h.ex (TAt.ex n) nkP6
          walk_at "rd"
          refine ⟨small (by show 2 ≤ 1000000; decide), fun p3 hp3 => ?_⟩
          have exp3 := Evl.Ex.new (o := .tup [.int 3, .str (S [cg])]) hp3
          have gp3 : (upd G6 p3 (.tup [.int 3, .str (S [cg])])) p3 = some (.tup [.int 3, .str (S [cg])]) := upd_same
          generalize upd G6 p3 (.tup [.int 3, .str (S [cg])]) = G7 at exp3 gp3 ⊢
          have kq7 := kq6.trans (Kq.of exp3)
          have hD7 := hD6.ex' exp3
          have np3 : New H G7 p3 = some (.tup [.int 3, .str (S [cg])]) := new_get (kq6.1 _ hp3) gp3
          have nkp3 := new_ex (H0 := H) exp3
          replace hb := nkp3 _ _ hb
          replace np1 := nkp3 _ _ np1
          replace np2 := nkp3 _ _ np2
          replace hall : All2 (ItAt (TAt n) (New H G7)) vs l := hall.map fun v x h => h.ex (TAt.ex n) nkp3
          walk_at "rd"
          refine ⟨small (by show 2 ≤ 1000000; decide), fun p4 hp4 => ?_⟩
          have exp4 := Evl.Ex.new (o := .lst [.ref p2, .ref p3]) hp4
          have gp4 : (upd G7 p4 (.lst [.ref p2, .ref p3])) p4 = some (.lst [.ref p2, .ref p3]) := upd_same
          generalize upd G7 p4 (.lst [.ref p2, .ref p3]) = G8 at exp4 gp4 ⊢
          have kq8 := kq7.trans (Kq.of exp4)
          have hD8 := hD7.ex' exp4
          have np4 : New H G8 p4 = some (.lst [.ref p2, .ref p3]) := new_get (kq7.1 _ hp4) gp4
          have nkp4 := new_ex (H0 := H) exp4
          replace hb := nkp4 _ _ hb
          replace np1 := nkp4 _ _ np1
          replace np2 := nkp4 _ _ np2
          replace np3 := nkp4 _ _ np3
          replace hall : All2 (ItAt (TAt n) (New H G8)) vs l := hall.map fun v x h => h.ex (TAt.ex n) nkp4
          walk_at "rd"
          refine ⟨small (by show 2 ≤ 1000000; decide), fun p5 hp5 => ?_⟩
          have exp5 := Evl.Ex.new (o := .tup [.ref p4, .int 5]) hp5
          have gp5 : (upd G8 p5 (.tup [.ref p4, .int 5])) p5 = some (.tup [.ref p4, .int 5]) := upd_same
          generalize upd G8 p5 (.tup [.ref p4, .int 5]) = G9 at exp5 gp5 ⊢
          have kq9 := kq8.trans (Kq.of exp5)
          have hD9 := hD8.ex' exp5
          have np5 : New H G9 p5 = some (.tup [.ref p4, .int 5]) := new_get (kq8.1 _ hp5) gp5
          have nkp5 := new_ex (H0 := H) exp5
          replace hb := nkp5 _ _ hb
          replace np1 := nkp5 _ _ np1
          replace np2 := nkp5 _ _ np2
          replace np3 := nkp5 _ _ np3
          replace np4 := nkp5 _ _ np4
          replace hall : All2 (ItAt (TAt n) (New H G9)) vs l := hall.map fun v x h => h.ex (TAt.ex n) nkp5
          walk_at "rd"
          refine ⟨small (by show 2 ≤ 1000000; decide), fun p6 hp6 => ?_⟩
          have exp6 := Evl.Ex.new (o := .lst [.ref p1, .ref p5]) hp6
          have gp6 : (upd G9 p6 (.lst [.ref p1, .ref p5])) p6 = some (.lst [.ref p1, .ref p5]) := upd_same
          generalize upd G9 p6 (.lst [.ref p1, .ref p5]) = GA at exp6 gp6 ⊢
          have kqA := kq9.trans (Kq.of exp6)
          have hDA := hD9.ex' exp6
          have np6 : New H GA p6 = some (.lst [.ref p1, .ref p5]) := new_get (kq9.1 _ hp6) gp6
          have nkp6 := new_ex (H0 := H) exp6
          replace hb := nkp6 _ _ hb
          replace np1 := nkp6 _ _ np1
          replace np2 := nkp6 _ _ np2
          replace np3 := nkp6 _ _ np3
          replace np4 := nkp6 _ _ np4
          replace np5 := nkp6 _ _ np5
          replace hall : All2 (ItAt (TAt n) (New H GA)) vs l := hall.map fun v x h => h.ex (TAt.ex n) nkp6
          walk_at "rd"
          refine ⟨n + 1, (show Rt.T (n + 1) from [(l, 0), ([(0, .inl ch), (3, .inl cg)], 5)]), .ref p6, _, _, _, rfl, by omega, kqA, hDA, ⟨p6, _, rfl, np6, All2.two ⟨p1, b, vs, rfl, np1, hb, hall⟩ ⟨p5, p4, _, rfl, np5, np4, All2.two ⟨p2, rfl, np2⟩ ⟨p3, rfl, np3⟩⟩⟩, ⟨by simp, fun p hp => ?_⟩, ?_⟩
          · rcases List.mem_cons.mp hp with z | z
            · rw [z]; exact okP
            · have : p = ([(0, .inl ch), (3, .inl cg)], 5) := by simpa using z
              rw [this]
              refine ⟨by simp, fun y hy => ?_, .inr ⟨by show 1 * 1 + (3 * 1 + 0) ≤ 5; decide, by show 5 ≤ 24; decide⟩⟩
              rcases List.mem_cons.mp hy with z | z
              · rw [z]; exact ⟨hch, .inl rfl⟩
              · have : y = (3, .inl cg) := by simpa using z
                rw [this]; exact ⟨hcg, .inr ⟨by show 2 ≤ 3; decide, by show 3 ≤ 24; decide⟩⟩
          · have l1 := wPart_len (w := wT n) [(0, .inl ch), (3, .inl cg)] 5
            have l2 : (([(0, .inl ch), (3, .inl cg)] : List (It (Rt.T n))).map (wItem (wT n))).flatten.length ≤ 6 := by
              show (wItem (wT n) (0, .inl ch) ++ (wItem (wT n) (3, .inl cg) ++ [])).length ≤ 6
              rw [List.append_nil, List.length_append]
              have a1 := one_len (w := wT n) (t := 0) (c := ch)
              have a2 := one_len (w := wT n) (t := 3) (c := cg)
              omega
            show (wPart (wT n) (l, 0) ++ 38 :: wPart (wT n) ([(0, .inl ch), (3, .inl cg)], 5)).length ≤ _
            rw [List.length_append, List.length_cons]
            omega
        · walk_at "rd"
          refine ⟨n + 1, (show Rt.T (n + 1) from [(l, 0)]), .ref pB, _, _, _, rfl, by omega, kq2, hD2, ⟨pB, _, rfl, npB, All2.one ⟨pA, b, vs, rfl, npA, hb, hall⟩⟩, ⟨by simp, fun p hp => ?_⟩, ?_⟩
          · have : p = (l, 0) := by simpa using hp
            rw [this]; exact okP
          · show (wPart (wT n) (l, 0)).length ≤ _
            omega
    · obtain ⟨n, x, v, o2, o3, o4, rfl, hn, kq, hD4, hx, ok, hlen⟩ := hJ
      walk_at "rd"
      exact q v n x H4 (by omega) kq hD4 hx ok (by omega)
end
end Fk

set_option Elab.async false
set_option linter.all false
set_option maxRecDepth 100000
set_option maxHeartbeats 4000000
namespace Fk
open PySem PySem.Spec PyProof.Rows L2 Fg Rt
local macro_rules | `(tactic| walk_at "rd1") => `(tactic| first
  | with_reducible refine r_seq ?_
  | with_reducible refine r_asg ?_
  | with_reducible refine r_gname ?_
  | with_reducible refine r_gsub ?_
  | with_reducible refine r_ret ?_
  | with_reducible refine r_retN ?_
  | with_reducible refine r_next ?_
  | with_reducible refine r_drop ?_
  | with_reducible refine r_ifS ?_
  | with_reducible refine r_if ?_
  | with_reducible refine r_par ?_
  | with_reducible refine r_pair ?_
  | with_reducible refine r_test ?_
  | with_reducible refine r_tB ?_
  | with_reducible refine r_not ?_
  | with_reducible refine r_and ?_
  | with_reducible refine r_or ?_
  | with_reducible refine r_andV ?_
  | with_reducible refine r_orV ?_
  | with_reducible refine r_notV ?_
  | with_reducible refine r_nil ?_
  | with_reducible refine r_cons ?_
  | with_reducible refine r_call ?_
  | with_reducible refine r_callS ?_
  | with_reducible refine r_cb ?_
  | with_reducible refine r_then ?_
  | with_reducible refine r_tup ?_
  | with_reducible refine r_lst ?_
  | with_reducible refine r_sl ?_
  | with_reducible refine r_nopart ?_
  | with_reducible refine r_part ?_
  | with_reducible refine r_lcR1 ?_
  | with_reducible refine r_lcR2 ?_
  | with_reducible refine r_lcL ?_
  | with_reducible refine r_lcT ?_
  | with_reducible refine r_forR1 ?_
  | with_reducible refine r_forR2 ?_
  | with_reducible refine r_forL ?_
  | with_reducible refine r_forT ?_
  | with_reducible refine r_forE ?_
  | with_reducible refine r_strE ?_
  | ((with_reducible refine r_rng1 ?hc ?_); (case hc => omega))
  | ((with_reducible refine r_rng2 ?hc ?_); (case hc => omega))
  | ((with_reducible refine' r_refL ?hc ?_); (case hc => first | assumption | exact Evl.sq_of (by assumption)))
  | ((with_reducible refine' r_refT ?hc ?_); (case hc => first | assumption | exact Evl.st_of (by assumption)))
  | with_reducible refine r_op ?_
  | with_reducible refine r_un ?_
  | with_reducible refine r_chain ?_
  | ((with_reducible refine' r_var ?hv ?_); (case hv => exact rfl))
  | with_reducible refine r_cS ?_
  | with_reducible refine r_cs ?_
  | with_reducible refine r_c ?_
  | with_reducible refine r_yes ?_
  | with_reducible refine r_bm ?_
  | with_reducible refine r_bl ?_
  | with_reducible refine r_in ?_
  | with_reducible refine r_ty ?_
  | with_reducible refine r_I0 ?_
  | ((with_reducible refine r_I ?hc ?_); (case hc => first | assumption | (show (0 : Int) < _; decide) | exact Or.inr ⟨by decide, by decide⟩ | exact Or.inr ⟨by omega, by omega⟩ | exact Or.inl ⟨by decide, by decide⟩ | exact (show CDivW _ _ from ⟨by decide, by decide +kernel⟩) | exact (show CPowW _ _ from ⟨by decide, by decide +kernel⟩) | (show (0 : Int) < _; omega)))
  | with_reducible refine r_U ?_
  | with_reducible refine r_eqI ?_
  | with_reducible refine r_neI ?_
  | with_reducible refine r_eqS ?_
  | with_reducible refine r_neS ?_
  | with_reducible refine r_eqB ?_
  | with_reducible refine r_neB ?_
  | with_reducible refine r_niS ?_
  | with_reducible refine r_inSS ?_
  | ((with_reducible refine r_slSS ?hc ?_); (case hc => first | exact small (by omega) | exact small (by simp; omega)))
  | ((with_reducible refine r_lenS ?hc ?_); (case hc => first | exact small (by omega) | exact small (by simp; omega)))
  | ((with_reducible refine' r_lenL ?hc ?_); (case hc => first | assumption | exact Evl.sq_of (by assumption)))
  | ((with_reducible refine' r_lenT ?hc ?_); (case hc => first | assumption | exact Evl.st_of (by assumption)))
  | ((with_reducible refine' r_ixL ?h1 ?h2 ?h3 ?_); (case h1 => first | assumption | exact Evl.sq_of (by assumption) | exact Evl.sq_of upd_same); (case h2 => first | decide | omega); (case h3 => first | exact rfl | assumption))
  | ((with_reducible refine' r_ixT ?h1 ?h2 ?h3 ?_); (case h1 => first | assumption | exact Evl.st_of (by assumption)); (case h2 => first | decide | omega); (case h3 => first | exact rfl | assumption))
  | with_reducible refine r_T ?_
  | with_reducible refine r_notNn ?_
  | with_reducible refine r_notN_int ?_
  | with_reducible refine r_notN_str ?_
  | with_reducible refine r_notN_ref ?_
  | with_reducible refine r_isNn ?_
  | with_reducible refine r_isN_int ?_
  | with_reducible refine r_isN_str ?_
  | with_reducible refine r_isN_ref ?_
  | ((with_reducible refine' r_isi ?ht ?hk ?_); (case ht => first | exact .base (.int _) | exact .base (.bl _) | exact .base (.str _) | exact .base .non | exact .base (.lst (by assumption)) | exact .base (.tup (by assumption))); (case hk => first | exact kb_int_int | exact kb_int_bool | exact kb_int_str | exact kb_int_list | exact kb_int_tuple | exact kb_bool_int | exact kb_bool_bool | exact kb_bool_str | exact kb_bool_list | exact kb_bool_tuple | exact kb_str_int | exact kb_str_bool | exact kb_str_str | exact kb_str_list | exact kb_str_tuple | exact kb_NoneType_int | exact kb_NoneType_bool | exact kb_NoneType_str | exact kb_NoneType_list | exact kb_NoneType_tuple | exact kb_list_int | exact kb_list_bool | exact kb_list_str | exact kb_list_list | exact kb_list_tuple | exact kb_tuple_int | exact kb_tuple_bool | exact kb_tuple_str | exact kb_tuple_list | exact kb_tuple_tuple))
  | with_reducible refine r_F ?_
  | with_reducible refine r_nT ?_
  | with_reducible refine r_nF ?_
  | with_reducible refine r_mko ?_
  | with_reducible refine r_xf ?_
  | ((with_reducible refine' r_sum ?hc ?_); (case hc => first | assumption | exact Evl.sq_of (by assumption)))
  | ((with_reducible refine' r_setL ?h1 ?h2 ?h3 ?_); (case h1 => first | assumption | exact upd_same); (case h2 => first | decide | omega); (case h3 => first | (show _ < _; decide) | (simp; done)))
  | with_reducible refine r_int ?_
  | with_reducible refine r_abs ?_)
local macro_rules | `(tactic| walk_at "rd") => `(tactic| repeat (walk_at "rd1"))

section
variable {P : Program} {w : World} {K : PySem.W.Frag} {mg : Str → Option Value} {base : Heap}
def spFreePart (n : Nat) : Sp := fun vs H Q _ => ∃ (c d t : Addr) (dp k : Nat) (ns : List Int), vs = [.ref d, .int (dp : Int), .ref t] ∧ Dr ns c d H ∧ Tally t k H ∧ t ≠ d ∧ t ≠ c ∧ k ≤ 500 ∧ 6 ≤ n + dp ∧ dp ≤ 6 ∧
  ∀ (v : V) (p : Pt (T n)) (k' : Nat) H', Made ns c d t H k k' H' → PtAt (TAt n) (New H H') v p → okPart (okT n) (cT n) p → ((p.1.map (wItem (wT n))).flatten).length + 5 ≤ 8 * (k' - k) → k < k' → k' ≤ max k (40 + 9 * (6 - dp)) + 3 → Q v H'
def spFreeText (n : Nat) : Sp := fun vs H Q _ => ∃ (c d t : Addr) (dp k : Nat) (ns : List Int), vs = [.ref d, .int (dp : Int), .ref t] ∧ Dr ns c d H ∧ Tally t k H ∧ t ≠ d ∧ t ≠ c ∧ k ≤ 480 ∧ 7 ≤ n + dp ∧ dp ≤ 6 ∧
  ∀ (v : V) (x : T n) (k' : Nat) H', Made ns c d t H k k' H' → TAt n (New H H') v x → okT n x → (wT n x).length + 2 ≤ 8 * (k' - k) → k < k' → k' ≤ max k (40 + 9 * (6 - dp)) + 9 → Q v H'
theorem cItems_big {n : Nat} (hn : n ≤ 6) {l : List (It (T n))} (hne : l ≠ []) (hok : ∀ x ∈ l, okItem (okT n) x) (hl : ((l.map (wItem (wT n))).flatten).length ≤ 1400) : cItems (cT n) l < 2 ^ 8500 := by
  have h := cT_big (n := n + 1) (by omega) (show T (n + 1) from [(l, 0)]) ⟨by simp, fun p hp => by
    have : p = (l, 0) := by simpa using hp
    rw [this]; exact ⟨hne, hok, .inl rfl⟩⟩ (by
      show (wPart (wT n) (l, 0)).length ≤ 1400
      rw [wPart0]; exact hl)
  have e : cT (n + 1) (show T (n + 1) from [(l, 0)]) = Nat.lcm 1 (cItems (cT n) l) := rfl
  rw [e, Nat.lcm_one_left] at h
  exact h
abbrev s_l_free_part : Stmt := topS 44
abbrev N_l_free_part : List Str := ["_law_draw_here", "_law_depth", "_law_tally", "_law_items", "_law_turn", "_law_used", "_law_kind", "_law_item"]
theorem sc_l_free_part : FnScope ["_law_draw_here", "_law_depth", "_law_tally", "_law_items", "_law_turn", "_law_used", "_law_kind", "_law_item"] ["_law_draw_here", "_law_depth", "_law_tally"] (defScope s_l_free_part) := ⟨rfl, rfl, rfl, by decide +kernel, rfl, by decide +kernel, by decide +kernel⟩
theorem can_l_free_part (T : Bi mg) (F : Defd K mg "_law_free_part" s_l_free_part ["_law_draw_here", "_law_depth", "_law_tally"]) {n k j : Nat} (hn6 : n ≤ 6) (hk : 3 ≤ k) (hj : j ≤ k) (C_l_pick : Can P w K mg base L2.CX0 2 "_law_pick" ["_law_draw_here", "_law_many"] spPick) (C_l_sign : Can P w K mg base L2.CX0 3 "_law_sign" ["_law_draw_here"] spSign) (C_l_item_count : Can P w K mg base L2.CX0 j "_law_item_count" ["_law_item"] (spItemC n)) (C_l_free_text : Can P w K mg base L2.CX0 k "_law_free_text" ["_law_draw_here", "_law_depth", "_law_tally"] (spFreeText n)) : Can P w K mg base L2.CX0 (k + 1) "_law_free_part" ["_law_draw_here", "_law_depth", "_law_tally"] (spFreePart n) := by
  refine can0 F sc_l_free_part (fun vs H Q E h => ?_) (fun f cdv A outer s H vs Q E hr h => ⟨_, (pss_cons (ps_set (i := 3) sc_l_free_part.nd rfl (by first | exact Or.inl rfl | exact Or.inr rfl) (pe_lst pa_nil))
  (pss_cons (ps_for PassesOwn.never rfl (pi_range1 rfl T.b_range (pa_cons (pe_op op_add pe_int (pe_can C_l_pick hr (by omega) rfl (pa_cons (pv 0) (pa_cons pe_int pa_nil)))) pa_nil)) (pg_name (i := 4) sc_l_free_part.nd rfl (by first | exact Or.inl rfl | exact Or.inr rfl))
    (pss_cons (ps_expr (pe_bm PySem.F.plainAttrs_list PySem.F.slot_list_append PySem.F.type_list_append mt_append (pv 2) (pa_cons pe_int pa_nil)))
  (pss_cons (ps_set (i := 6) sc_l_free_part.nd rfl (by first | exact Or.inl rfl | exact Or.inr rfl) (pe_can C_l_pick hr (by omega) rfl (pa_cons (pv 0) (pa_cons pe_int pa_nil))))
  (pss_one (ps_if (PW.pt (pw_and (pt_cmpR op_eq (pv 6) pe_int (nomark _)) (pw_and (pt_cmpR op_lt (pv 1) pe_int (nomark _)) (pw_and1 (pt_cmpR op_lt (pe_callB call_lenQ (by rfl) T.b_len boot_len (pa_cons (pv 2) pa_nil)) pe_int (nomark _)))))) (pss_one (ps_expr (pe_bm PySem.F.plainAttrs_list PySem.F.slot_list_append PySem.F.type_list_append mt_append (pv 3) (pa_cons (pe_tup (pa_cons (pe_op op_add pe_int (pe_can C_l_pick hr (by omega) rfl (pa_cons (pv 0) (pa_cons pe_int pa_nil)))) (pa_cons (pe_can C_l_free_text hr (by omega) rfl (pa_cons (pv 0) (pa_cons (pe_op op_add (pv 1) pe_int) (pa_cons (pv 2) pa_nil)))) pa_nil))) pa_nil)))) (pss_one (ps_if (pt_cmpR op_eq (pv 6) pe_int (nomark _)) (pss_one (ps_expr (pe_bm PySem.F.plainAttrs_list PySem.F.slot_list_append PySem.F.type_list_append mt_append (pv 3) (pa_cons (pe_tup (pa_cons (pe_op op_add pe_int (pe_can C_l_pick hr (by omega) rfl (pa_cons (pv 0) (pa_cons pe_int pa_nil)))) (pa_cons (pe_can C_l_sign hr (by omega) rfl (pa_cons (pv 0) pa_nil)) pa_nil))) pa_nil)))) (pss_one (ps_expr (pe_bm PySem.F.plainAttrs_list PySem.F.slot_list_append PySem.F.type_list_append mt_append (pv 3) (pa_cons (pe_tup (pa_cons pe_int (pa_cons (pe_can C_l_sign hr (by omega) rfl (pa_cons (pv 0) pa_nil)) pa_nil))) pa_nil)))))))))))
  (pss_cons (ps_set (i := 5) sc_l_free_part.nd rfl (by first | exact Or.inl rfl | exact Or.inr rfl) (pe_callB (cr_sum rfl) (by rfl) T.b_sum boot_sum (pa_cons (pe_lc (own := [("_law_item", 7)]) (g := gName 7) (tt := tYes) rfl sc_l_free_part.nd (pi_list (pv 3)) (blkOk_by (N := N_l_free_part) (sc := defScope s_l_free_part) (by decide +kernel)) (fun _ _ _ _ _ => pg_name (i := 7) sc_l_free_part.nd rfl (Or.inl rfl)) (fun _ _ _ _ _ => pts_nil) (fun _ _ _ _ _ => (pe_can C_l_item_count hr (by omega) rfl (pa_cons (pv 7) pa_nil)))) pa_nil)))
  (pss_cons (ps_if (PW.pt (pw_and (pt_cmpR op_le (pv 5) pe_int (nomark _)) (pw_and1 (pt_cmpR op_eq (pe_can C_l_pick hr (by omega) rfl (pa_cons (pv 0) (pa_cons pe_int pa_nil))) pe_int (nomark _))))) (pss_one (ps_ret (pe_tup (pa_cons (pv 3) (pa_cons (pe_op op_add (pv 5) (pe_can C_l_pick hr (by omega) rfl (pa_cons (pv 0) (pa_cons (pe_op op_sub pe_int (pv 5)) pa_nil)))) pa_nil))))) pss_nil)
  (pss_one (ps_ret (pe_tup (pa_cons (pv 3) (pa_cons pe_int pa_nil))))))))), ?_⟩)
  · obtain ⟨_, _, _, _, _, _, rfl, _⟩ := h
    rfl
  · obtain ⟨c, d, t, dp, k0, ns, rfl, hD, hT, td, tc, k500, hnd, hdp, q⟩ := h
    walk_at "rd"
    refine ⟨small (by show 0 ≤ 1000000; decide), fun L hL => ?_⟩
    have Ld : L ≠ d := hD.nd hL
    have Lc : L ≠ c := hD.nc hL
    have Lt : L ≠ t := fun z => by rw [z, hT] at hL; cases hL
    have exL := Evl.Ex.new (o := .lst []) hL
    have gL : (upd H L (.lst [])) L = some (.lst []) := upd_same
    generalize hHL : upd H L (.lst []) = HL at exL gL ⊢
    have hDL := hD.ex' exL
    have hTL : Tally t k0 HL := exL _ _ hT
    have Hd : HL d ≠ none := hDL.some
    have Ht : HL t ≠ none := fun z => by rw [show HL t = _ from hTL] at z; cases z
    have HLL : HL L ≠ none := fun z => by rw [gL] at z; cases z
    walk_at "rd"
    refine ⟨c, d, 3, ns, rfl, hDL, by decide, fun m H1 m0 m1 kp1 hD1 => ?_⟩
    have hT1 : Tally t k0 H1 := kp1 _ _ td hTL
    have gL1 := kp1 _ _ Ld gL
    have kq1 : Kq d t H H1 := (Kq.of exL).trans (Kq.pick kp1 hD1)
    walk_at "rd"
    obtain ⟨B, hB⟩ : ∃ B, B = 40 + 9 * (6 - dp) := ⟨_, rfl⟩
    refine forR (fun i σ' H' => ∃ (l : List (It (Rt.T n))) (vs : List V) (k' : Nat) (o4 o5 o6 o7 : Option V), σ' = [some (.ref d), some (.int (dp : Int)), some (.ref t), some (.ref L), o4, o5, o6, o7] ∧
      Kq d t H H' ∧ Dr ns c d H' ∧ Tally t k' H' ∧ k0 + i ≤ k' ∧ k' ≤ max k0 B + i ∧ H' L = some (.lst vs) ∧ All2 (ItAt (TAt n) (New HL H')) vs l ∧ (∀ x ∈ l, okItem (okT n) x) ∧ l.length = i ∧ ((l.map (wItem (wT n))).flatten).length + 5 * i ≤ 8 * (k' - k0))
      ⟨[], [], k0, _, _, _, _, rfl, kq1, hD1, hT1, by omega, by omega, gL1, ⟨rfl, by decide, (fun k v x h => by cases h)⟩, (fun x h => nomatch h), rfl, Nat.zero_le _⟩ (fun i σ' H2 hi hJ => ?_) (fun σ' H2 hJ => ?_)
    · obtain ⟨l, vs, k', o4, o5, o6, o7, rfl, kq, hD2, hT2, hk1, hk2, hL2, hAll, hok, hll, hlen⟩ := hJ
      have hi3 : i < 3 := by omega
      walk_at "rd"
      refine ⟨.inl ⟨rfl, _, Evl.sq_of hT2⟩, ?_⟩
      walk_at "rd"
      refine ⟨t, _, _, rfl, rfl, hT2, by rw [List.length_replicate, sizeLine_eq]; omega, ?_⟩
      have hT3 : Tally t (k' + 1) (upd H2 t (.lst (List.replicate k' (.int 1) ++ [.int 1]))) := by
        unfold Tally
        rw [upd_same, List.replicate_succ']
      have kq3 : Kq d t H2 (upd H2 t (.lst (List.replicate k' (.int 1) ++ [.int 1]))) := .put
      have hD3 : Dr ns c d (upd H2 t (.lst (List.replicate k' (.int 1) ++ [.int 1]))) := hD2.mut tc td
      have hL3 : (upd H2 t (.lst (List.replicate k' (.int 1) ++ [.int 1]))) L = some (.lst vs) := by rw [upd_ne Lt]; exact hL2
      generalize upd H2 t (.lst (List.replicate k' (.int 1) ++ [.int 1])) = H3 at hT3 kq3 hD3 hL3 ⊢
      walk_at "rd"
      refine ⟨c, d, 4, ns, rfl, hD3, by decide, fun kd H4 kd0 kd1 kp4 hD4 => ?_⟩
      have kq4 := kq3.trans (Kq.pick kp4 hD4)
      have hT4 : Tally t (k' + 1) H4 := kp4 _ _ td hT3
      have hL4 := kp4 _ _ Ld hL3
      have hAll4 : All2 (ItAt (TAt n) (New HL H4)) vs l := hAll.map fun v x h => h.ex (TAt.ex n) (new_keep (Grow.refl _) kq4 Hd Ht)
      replace kq4 := kq.trans kq4
      clear hT3 kq3 hD3 hL3 hT2 hD2 hL2 hAll kp4 kp1
      have hT4' : H4 t = some (.lst (List.replicate (k' + 1) (.int 1))) := hT4
      have hvs : vs.length = l.length := hAll4.1
      have push : ∀ (H5 : Hp) (y : V) (it : It (Rt.T n)) (k2 : Nat) (o4 o5 o6 o7 : Option V), Kq d t H H5 → Dr ns c d H5 → Tally t k2 H5 → H5 L = some (.lst vs) → All2 (ItAt (TAt n) (New HL H5)) vs l → ItAt (TAt n) (New HL H5) y it →
          okItem (okT n) it → k' + 1 ≤ k2 → k2 ≤ max k0 B + (i + 1) → (wItem (wT n) it).length + 5 ≤ 8 * (k2 - k') →
          rAppend (.ref L) [y] H5 fun _ H6 => ∃ (l : List (It (Rt.T n))) (vs : List V) (k' : Nat) (o4' o5' o6' o7' : Option V), [some (.ref d), some (.int (dp : Int)), some (.ref t), some (.ref L), o4, o5, o6, o7] = [some (.ref d), some (.int (dp : Int)), some (.ref t), some (.ref L), o4', o5', o6', o7'] ∧
      Kq d t H H6 ∧ Dr ns c d H6 ∧ Tally t k' H6 ∧ k0 + (i + 1) ≤ k' ∧ k' ≤ max k0 B + (i + 1) ∧ H6 L = some (.lst vs) ∧ All2 (ItAt (TAt n) (New HL H6)) vs l ∧ (∀ x ∈ l, okItem (okT n) x) ∧ l.length = i + 1 ∧ ((l.map (wItem (wT n))).flatten).length + 5 * (i + 1) ≤ 8 * (k' - k0) := by
        intro H5 y it k2 o4 o5 o6 o7 a1 a2 a3 a4 a5 a6 a8 a9 a10 a11
        obtain ⟨b1, b2, b3, b4⟩ := add_any (R := ItAt (TAt n)) (fun H H' v x e h => ItAt.ex (TAt.ex n) e h) HLL hL Ld Lt Lc a1 a2 a3 a5 (by omega) a6
        refine ⟨L, vs, _, rfl, rfl, a4, by rw [sizeLine_eq]; omega, l ++ [it], vs ++ [y], k2, o4, o5, o6, o7, rfl, b1, b2, b3, by omega, a10, upd_same, b4, fun x hx => ?_, by rw [List.length_append]; show _ + 1 = _; omega, ?_⟩
        · rcases List.mem_append.mp hx with z | z
          · exact hok x z
          · have : x = it := by simpa using z
            rw [this]; exact a8
        · rw [List.map_append, List.flatten_append, List.length_append]
          have e1 : ([it].map (wItem (wT n))).flatten = wItem (wT n) it := by simp
          rw [e1]
          omega
      refine r_gname ?_
      refine r_next ?_
      dsimp only
      refine r_ifAll (decide (kd = 3) && (decide ((dp : Int) < 6) && decide (((k' + 1 : Nat) : Int) < 40))) (fun Q2 hq => ?_) (fun hb => ?_) (fun hb => ?_)
      · walk_at "rd"
        refine r_ite (fun h2 => ?_) (fun h2 => ?_)
        · rw [decide_eq_true h2, Bool.true_and] at hq
          walk_at "rd"
          refine r_ite (fun h3 => ?_) (fun h3 => ?_)
          · rw [decide_eq_true h3, Bool.true_and] at hq
            walk_at "rd"
            rw [List.length_replicate]
            exact hq
          · rw [decide_eq_false h3, Bool.false_and] at hq
            exact hq
        · rw [decide_eq_false h2, Bool.false_and] at hq
          exact hq
      · obtain ⟨g2, hb⟩ := Bool.and_eq_true_iff.mp hb
        obtain ⟨g3, g4⟩ := Bool.and_eq_true_iff.mp hb
        replace g3 := of_decide_eq_true g3
        replace g4 := of_decide_eq_true g4
        walk_at "rd"
        refine ⟨.inl ⟨rfl, _, Evl.sq_of hL4⟩, ?_⟩
        walk_at "rd"
        refine ⟨c, d, 23, ns, rfl, hD4, by decide, fun pk H5 pk0 pk1 kp5 hD5 => ?_⟩
        obtain ⟨pn, rfl⟩ : ∃ pn : Nat, pk = pn := ⟨pk.toNat, by omega⟩
        have pn1 : pn ≤ 22 := by omega
        have kq5 := Kq.pick (t := t) kp5 hD5
        have hT5 : Tally t (k' + 1) H5 := kp5 _ _ td hT4
        have hL5 := kp5 _ _ Ld hL4
        have grw : Grow HL H5 := fun b hb => by
          have nL : b ≠ L := fun z => by rw [z, hL5] at hb; cases hb
          rw [← hHL, upd_ne nL]
          exact (kq4.trans kq5).1 b hb
        walk_at "rd"
        refine ⟨c, d, t, dp + 1, k' + 1, ns, by rw [Int.natCast_add]; rfl, hD5, hT5, td, tc, by omega, by omega, by omega, fun y x k2 H6 M hx okx lx k2lt k2le => ?_⟩
        have hL6 := M.kq.2 _ _ Ld Lt hL5
        have kqA := kq5.trans M.kq
        have hAll6 : All2 (ItAt (TAt n) (New HL H6)) vs l := hAll4.map fun v x h => h.ex (TAt.ex n) (new_keep (Grow.refl _) kqA Hd Ht)
        have hx2 : TAt n (New HL H6) y x := TAt.ex n _ _ _ _ (new_keep (H' := H6) (H2 := H6) (H := H5) grw (Kq.refl d t H6) (fun z => Hd (grw _ z)) (fun z => Ht (grw _ z))) hx
        walk_at "rd"
        refine ⟨small (by show 2 ≤ 1000000; decide), fun p hp => ?_⟩
        have exP := Evl.Ex.new (o := .tup [.int (2 + (pn : Int)), y]) hp
        have gP : (upd H6 p (.tup [.int (2 + (pn : Int)), y])) p = some (.tup [.int (2 + (pn : Int)), y]) := upd_same
        generalize upd H6 p (.tup [.int (2 + (pn : Int)), y]) = H7 at exP gP ⊢
        have pL : p ≠ L := fun z => by rw [z, hL6] at hp; cases hp
        have hpL : HL p = none := by rw [← hHL, upd_ne pL]; exact (kq4.trans kqA).1 p hp
        have nk := new_ex (H0 := HL) exP
        walk_at "rd"
        refine push H7 (.ref p) (2 + pn, .inr x) k2 _ _ _ _ ((kq4.trans kqA).trans (Kq.of exP)) (M.dr.ex' exP) (exP _ _ M.tl) (exP _ _ hL6) (hAll6.map fun v x h => h.ex (TAt.ex n) nk) ⟨p, rfl, y, ?_, TAt.ex n _ _ _ _ nk hx2⟩ ⟨by show 2 ≤ 2 + pn; omega, by show 2 + pn ≤ 24; omega, okx⟩ M.le (by omega) ?_
        · have g := new_get hpL gP
          show New HL H7 p = some (.tup [.int ((2 + pn : Nat) : Int), y])
          rw [g, Int.natCast_add]
          rfl
        · have hD2 := digs_len (2 + pn)
          have : (wItem (wT n) (2 + pn, .inr x)).length ≤ (wT n x).length + 4 := by
            show ((if 0 < 2 + pn then digs (2 + pn) else []) ++ (40 :: (wT n x ++ [41]))).length ≤ _
            rw [if_pos (by omega), List.length_append, List.length_cons, List.length_append]
            show _ + (_ + 1 + 1) ≤ _
            omega
          omega
      · refine r_ifAll (decide (kd = 2)) (fun Q2 hq => ?_) (fun hb2 => ?_) (fun hb2 => ?_)
        · walk_at "rd"
          exact hq
        · walk_at "rd"
          refine ⟨.inl ⟨rfl, _, Evl.sq_of hL4⟩, ?_⟩
          walk_at "rd"
          refine ⟨c, d, 23, ns, rfl, hD4, by decide, fun pk H5 pk0 pk1 kp5 hD5 => ?_⟩
          obtain ⟨pn, rfl⟩ : ∃ pn : Nat, pk = pn := ⟨pk.toNat, by omega⟩
          walk_at "rd"
          refine ⟨c, d, ns, rfl, hD5, fun ch H6 hch kp6 hD6 => ?_⟩
          have kq6 := (Kq.pick (t := t) kp5 hD5).trans (Kq.pick kp6 hD6)
          have hT6 : Tally t (k' + 1) H6 := kp6 _ _ td (kp5 _ _ td hT4)
          have hL6 := kp6 _ _ Ld (kp5 _ _ Ld hL4)
          have hAll6 : All2 (ItAt (TAt n) (New HL H6)) vs l := hAll4.map fun v x h => h.ex (TAt.ex n) (new_keep (Grow.refl _) kq6 Hd Ht)
          walk_at "rd"
          refine ⟨small (by show 2 ≤ 1000000; decide), fun p hp => ?_⟩
          have exP := Evl.Ex.new (o := .tup [.int (2 + (pn : Int)), .str (S [ch])]) hp
          have gP : (upd H6 p (.tup [.int (2 + (pn : Int)), .str (S [ch])])) p = some (.tup [.int (2 + (pn : Int)), .str (S [ch])]) := upd_same
          generalize upd H6 p (.tup [.int (2 + (pn : Int)), .str (S [ch])]) = H7 at exP gP ⊢
          have pL : p ≠ L := fun z => by rw [z, hL6] at hp; cases hp
          have hpL : HL p = none := by rw [← hHL, upd_ne pL]; exact (kq4.trans kq6).1 p hp
          have nk := new_ex (H0 := HL) exP
          walk_at "rd"
          refine push H7 (.ref p) (2 + pn, .inl ch) (k' + 1) _ _ _ _ ((kq4.trans kq6).trans (Kq.of exP)) (hD6.ex' exP) (exP _ _ hT6) (exP _ _ hL6) (hAll6.map fun v x h => h.ex (TAt.ex n) nk) ⟨p, rfl, ?_⟩ ⟨hch, .inr ⟨by show 2 ≤ 2 + pn; omega, by show 2 + pn ≤ 24; omega⟩⟩ (Nat.le_refl _) (by omega) ?_
          · have g := new_get hpL gP
            show New HL H7 p = some (.tup [.int ((2 + pn : Nat) : Int), .str (S [ch])])
            rw [g, Int.natCast_add]
            rfl
          · have := one_len (w := wT n) (t := 2 + pn) (c := ch)
            omega
        · walk_at "rd"
          refine ⟨.inl ⟨rfl, _, Evl.sq_of hL4⟩, ?_⟩
          walk_at "rd"
          refine ⟨c, d, ns, rfl, hD4, fun ch H6 hch kp6 hD6 => ?_⟩
          have kq6 := Kq.pick (t := t) kp6 hD6
          have hT6 : Tally t (k' + 1) H6 := kp6 _ _ td hT4
          have hL6 := kp6 _ _ Ld hL4
          have hAll6 : All2 (ItAt (TAt n) (New HL H6)) vs l := hAll4.map fun v x h => h.ex (TAt.ex n) (new_keep (Grow.refl _) kq6 Hd Ht)
          walk_at "rd"
          refine ⟨small (by show 2 ≤ 1000000; decide), fun p hp => ?_⟩
          have exP := Evl.Ex.new (o := .tup [.int 0, .str (S [ch])]) hp
          have gP : (upd H6 p (.tup [.int 0, .str (S [ch])])) p = some (.tup [.int 0, .str (S [ch])]) := upd_same
          generalize upd H6 p (.tup [.int 0, .str (S [ch])]) = H7 at exP gP ⊢
          have pL : p ≠ L := fun z => by rw [z, hL6] at hp; cases hp
          have hpL : HL p = none := by rw [← hHL, upd_ne pL]; exact (kq4.trans kq6).1 p hp
          have nk := new_ex (H0 := HL) exP
          walk_at "rd"
          refine push H7 (.ref p) (0, .inl ch) (k' + 1) _ _ _ _ ((kq4.trans kq6).trans (Kq.of exP)) (hD6.ex' exP) (exP _ _ hT6) (exP _ _ hL6) (hAll6.map fun v x h => h.ex (TAt.ex n) nk) ⟨p, rfl, new_get hpL gP⟩ ⟨hch, .inl rfl⟩ (Nat.le_refl _) (by omega) ?_
          have := one_len (w := wT n) (t := 0) (c := ch)
          omega
    · obtain ⟨l, vs, k', o4, o5, o6, o7, rfl, kq, hD2, hT2, hk1, hk2, hL2, hAll, hok, hll, hlen⟩ := hJ
      have N3 : (1 + m).toNat ≤ 3 := by omega
      have N1 : 1 ≤ (1 + m).toNat := by omega
      generalize (1 + m).toNat = N at N3 N1 hk1 hk2 hll hlen
      have hne : l ≠ [] := fun z => by
        rw [z] at hll
        have h0 : 0 = N := hll
        omega
      have hvs : vs.length = l.length := hAll.1
      have big := cItems_big hn6 hne hok (by omega)
      walk_at "rd"
      refine lcL (xs := vs) (fun D i acc H3 => Ex H2 H3 ∧ acc = ((l.take i).map fun i => ((cItem (cT n) i : Nat) : Int)).map V.int) (fun _ => rfl) (fun D hD => ⟨Evl.Ex.new hD, rfl⟩) (fun D i H3 acc hD hJ => Evl.sq_of (hJ.1 _ _ hL2))
        (fun D i x H3 acc hDn hx e2 hl2 hJ => ?_) (fun D H3 acc hDn e2 hJ => ?_)
      · obtain ⟨ex, rfl⟩ := hJ
        have hi := lt_of_get hx
        have hy : l[i]? = some l[i] := List.getElem?_eq_getElem (by omega)
        have hm : l[i] ∈ l := List.getElem_mem _
        have hit := hAll.2.2 i x l[i] hx hy
        walk_at "rd"
        refine ⟨x, l[i], rfl, (hit.ex (TAt.ex n) new_sub).ex (TAt.ex n) ex, hok _ hm, Nat.lt_of_le_of_lt (mem_le hm) big, fun H4 ex4 => ?_⟩
        refine lc_end (by omega) hl2 (ex4 _ _ e2) ⟨(ex.trans ex4).mut hDn, ?_⟩
        rw [take_snoc hy, List.map_append, List.map_append]
        rfl
      obtain ⟨ex, rfl⟩ := hJ
      rw [List.take_of_length_le (by omega)] at e2
      walk_at "rd"
      rw [sum_cast]
      have kqc := Kq.of (d := d) (t := t) ex
      replace kq := kq.trans kqc
      replace hD2 := hD2.ex' ex
      replace hT2 : Tally t k' H3 := ex _ _ hT2
      replace hL2 := ex _ _ hL2
      replace hAll : All2 (ItAt (TAt n) (New HL H3)) vs l := hAll.map fun v x h => h.ex (TAt.ex n) (new_ex ex)
      have fin : ∀ (G : Hp) (p : Addr) (fill : Nat), Kq d t H3 G → Dr ns c d G → Tally t k' G → G p = none → (fill = 0 ∨ cItems (cT n) l ≤ fill ∧ fill ≤ 24) → Q (.ref p) (upd G p (.tup [.ref L, .int (fill : Int)])) := by
        intro G p fill a1 a2 a3 a5 a6
        have gLG : G L = some (.lst vs) := a1.2 _ _ Ld Lt hL2
        have pL : p ≠ L := fun z => by rw [z, gLG] at a5; cases a5
        have hH3 : H p = none := (kq.trans a1).1 p a5
        have ex := Evl.Ex.new (o := .tup [.ref L, .int (fill : Int)]) a5
        have kqF : Kq d t H (upd G p (.tup [.ref L, .int (fill : Int)])) := (kq.trans a1).trans (Kq.of ex)
        have sub : Ex (New HL H3) (New H (upd G p (.tup [.ref L, .int (fill : Int)]))) := new_keep (Grow.ex exL) (a1.trans (Kq.of ex)) Hd Ht
        have aT : Tally t k' G := a3
        refine q _ (l, fill) k' _ ⟨kqF, a2.ex' ex, ex _ _ aT, by omega⟩ ⟨p, L, vs, rfl, new_get hH3 upd_same, new_get hL (ex _ _ gLG), hAll.map fun v x h => h.ex (TAt.ex n) sub⟩ ⟨hne, hok, ?_⟩ ?_ (by omega) (by omega)
        · rcases a6 with z | z
          · exact .inl z
          · exact .inr z
        · show ((l.map (wItem (wT n))).flatten).length + 5 ≤ 8 * (k' - k0)
          omega
      refine r_ite (fun h24 => ?_) (fun h24 => ?_)
      · walk_at "rd"
        refine ⟨c, d, 4, ns, rfl, hD2, by decide, fun z H4 z0 z1 kp4 hD4 => ?_⟩
        have kq4 := Kq.pick (t := t) kp4 hD4
        have hT4 : Tally t k' H4 := kp4 _ _ td hT2
        walk_at "rd"
        refine r_ite (fun h => ?_) (fun h => ?_)
        · walk_at "rd"
          refine ⟨c, d, _, ns, rfl, hD4, Int.lt_of_le_of_lt (b := 25) (by omega) (by decide), fun pk H5 pk0 pk1 kp5 hD5 => ?_⟩
          obtain ⟨pn, rfl⟩ : ∃ pn : Nat, pk = pn := ⟨pk.toNat, by omega⟩
          walk_at "rd"
          refine ⟨small (by show 2 ≤ 1000000; decide), fun p hp => ?_⟩
          rw [← Int.natCast_add]
          exact fin H5 p _ (kq4.trans (Kq.pick kp5 hD5)) hD5 (kp5 _ _ td hT4) hp (.inr ⟨by omega, by omega⟩)
        · walk_at "rd"
          refine ⟨small (by show 2 ≤ 1000000; decide), fun p hp => ?_⟩
          exact fin H4 p 0 kq4 hD4 hT4 hp (.inl rfl)
      · walk_at "rd"
        refine ⟨small (by show 2 ≤ 1000000; decide), fun p hp => ?_⟩
        exact fin H3 p 0 (Kq.refl d t _) hD2 hT2 hp (.inl rfl)
abbrev s_l_free_text : Stmt := topS 45
abbrev N_l_free_text : List Str := ["_law_draw_here", "_law_depth", "_law_tally", "_law_turn"]
theorem sc_l_free_text : FnScope ["_law_draw_here", "_law_depth", "_law_tally", "_law_turn"] ["_law_draw_here", "_law_depth", "_law_tally"] (defScope s_l_free_text) := ⟨rfl, rfl, rfl, by decide +kernel, rfl, by decide +kernel, by decide +kernel⟩
theorem can_l_free_text (T : Bi mg) (F : Defd K mg "_law_free_text" s_l_free_text ["_law_draw_here", "_law_depth", "_law_tally"]) {n k : Nat} (hk : 3 ≤ k) (C_l_pick : Can P w K mg base L2.CX0 2 "_law_pick" ["_law_draw_here", "_law_many"] spPick) (C_l_free_part : Can P w K mg base L2.CX0 k "_law_free_part" ["_law_draw_here", "_law_depth", "_law_tally"] (spFreePart n)) : Can P w K mg base L2.CX0 (k + 1) "_law_free_text" ["_law_draw_here", "_law_depth", "_law_tally"] (spFreeText (n + 1)) := by
  refine can0 F sc_l_free_text (fun vs H Q E h => ?_) (fun f cdv A outer s H vs Q E hr h => ⟨_, (pss_one (ps_ret (pe_lc (own := [("_law_turn", 3)]) (g := gName 3) (tt := tYes) rfl sc_l_free_text.nd (pi_range1 rfl T.b_range (pa_cons (pe_ix ix_list (pe_lst (pa_cons pe_int (pa_cons pe_int (pa_cons pe_int (pa_cons pe_int pa_nil))))) (pe_can C_l_pick hr (by omega) rfl (pa_cons (pv 0) (pa_cons pe_int pa_nil))) (fun _ _ => rfl)) pa_nil)) (blkOk_by (N := N_l_free_text) (sc := defScope s_l_free_text) (by decide +kernel)) (fun _ _ _ _ _ => pg_name (i := 3) sc_l_free_text.nd rfl (Or.inl rfl)) (fun _ _ _ _ _ => pts_nil) (fun _ _ _ _ _ => (pe_can C_l_free_part hr (by omega) rfl (pa_cons (pv 0) (pa_cons (pv 1) (pa_cons (pv 2) pa_nil)))))))), ?_⟩)
  · obtain ⟨_, _, _, _, _, _, rfl, _⟩ := h
    rfl
  · obtain ⟨c, d, t, dp, k0, ns, rfl, hD, hT, td, tc, k500, hnd, hdp, q⟩ := h
    have Hd : H d ≠ none := hD.some
    have Ht : H t ≠ none := fun z => by rw [show H t = _ from hT] at z; cases z
    walk_at "rd"
    refine ⟨small (by show 4 ≤ 1000000; decide), fun G hG => ?_⟩
    have Gd : G ≠ d := hD.nd hG
    have exG := Evl.Ex.new (o := .lst [.int 1, .int 1, .int 2, .int 3]) hG
    have gG : (upd H G (.lst [.int 1, .int 1, .int 2, .int 3])) G = some (.lst [.int 1, .int 1, .int 2, .int 3]) := upd_same
    generalize upd H G (.lst [.int 1, .int 1, .int 2, .int 3]) = H1 at exG gG ⊢
    have hD1 := hD.ex' exG
    walk_at "rd"
    refine ⟨c, d, 4, ns, rfl, hD1, by decide, fun m H2 m0 m1 kp2 hD2 => ?_⟩
    have gG2 := kp2 _ _ Gd gG
    have kq2 : Kq d t H H2 := (Kq.of exG).trans (Kq.pick kp2 hD2)
    have hT2 : Tally t k0 H2 := kp2 _ _ td (exG _ _ hT)
    obtain ⟨e, he, he2, he3⟩ : ∃ e : Nat, ([.int 1, .int 1, .int 2, .int 3] : List V)[m.toNat]? = some (.int (e : Int)) ∧ 1 ≤ e ∧ e ≤ 3 := by
      have m5 : m.toNat < 4 := by omega
      generalize m.toNat = a at m5
      match a, m5 with
      | 0, _ => exact ⟨1, rfl, by decide, by decide⟩
      | 1, _ => exact ⟨1, rfl, by decide, by decide⟩
      | 2, _ => exact ⟨2, rfl, by decide, by decide⟩
      | 3, _ => exact ⟨3, rfl, by decide, by decide⟩
    obtain ⟨B, hB⟩ : ∃ B, B = 40 + 9 * (6 - dp) := ⟨_, rfl⟩
    walk_at "rd"
    rw [show (e : Int).toNat = e from Int.toNat_natCast e]
    refine lcR (fun D i acc H' => ∃ (ps : List (Pt (Rt.T n))) (k' : Nat), Kq d t H H' ∧ Dr ns c d H' ∧ Tally t k' H' ∧ k0 + i ≤ k' ∧ k' ≤ max k0 B + 3 * i ∧ All2 (PtAt (TAt n) (New (upd H D (.lst [])) H')) acc ps ∧ (∀ p ∈ ps, okPart (okT n) (cT n) p) ∧ ps.length = i ∧ (wText (wT n) ps).length + 2 * min i 1 ≤ 8 * (k' - k0)) (fun _ => rfl) (fun D hDn => ?_) (fun D i H3 acc hDn hi e3 hl3 hJ => ?_) (fun D H3 acc hDn e3 hJ => ?_)
    · have exD := Evl.Ex.new (o := .lst []) hDn
      exact ⟨[], k0, kq2.trans (Kq.of exD), hD2.ex' exD, exD _ _ hT2, Nat.le_refl _, by omega, ⟨rfl, by decide, fun k v x h => by cases h⟩, fun p hp => (nomatch hp), rfl, Nat.zero_le _⟩
    · obtain ⟨ps, k', kq3, hD3, hT3, hk1, hk2, hAll, hok, hll, hlen⟩ := hJ
      have hDH : H D = none := kq2.1 D hDn
      have Dd : D ≠ d := hD.nd hDH
      have Dc : D ≠ c := hD.nc hDH
      have Dt : D ≠ t := fun z => Ht (by rw [← z]; exact hDH)
      obtain ⟨HL, hHL⟩ : ∃ HL, HL = upd H D (.lst []) := ⟨_, rfl⟩
      rw [← hHL] at hAll
      have HLL : HL D ≠ none := fun z => by rw [hHL, upd_same] at z; cases z
      have HLd : HL d ≠ none := by rw [hHL, upd_ne (Ne.symm Dd)]; exact Hd
      have HLt : HL t ≠ none := by rw [hHL, upd_ne (Ne.symm Dt)]; exact Ht
      have hvs : acc.length = ps.length := hAll.1
      walk_at "rd"
      refine ⟨c, d, t, dp, k', ns, rfl, hD3, hT3, td, tc, by omega, by omega, hdp, fun y p k2 H4 M hp okp lenp k2lt k2le => ?_⟩
      have grw : Grow HL H3 := fun b hb => by
        have nL : b ≠ D := fun z => by rw [z, e3] at hb; cases hb
        rw [hHL, upd_ne nL]
        exact kq3.1 b hb
      have sub : Ex (New H3 H4) (New HL H4) := new_keep grw (Kq.refl d t _) (fun z => HLd (grw _ z)) (fun z => HLt (grw _ z))
      obtain ⟨b1, b2, b3, b4⟩ := add_any (R := PtAt (TAt n)) (fun H H' v x e h => PtAt.ex (TAt.ex n) e h) HLL hDH Dd Dt Dc (kq3.trans M.kq) M.dr M.tl (hAll.map fun v x h => h.ex (TAt.ex n) (new_keep (Grow.refl _) M.kq HLd HLt)) (by omega) (hp.ex (TAt.ex n) sub)
      refine lc_end (by omega) hl3 (M.kq.2 _ _ Dd Dt e3) ⟨ps ++ [p], k2, b1, b2, b3, by omega, by omega, by rw [← hHL]; exact b4, fun x hx => ?_, by rw [List.length_append]; show _ + 1 = _; omega, ?_⟩
      · rcases List.mem_append.mp hx with z | z
        · exact hok x z
        · have : x = p := by simpa using z
          rw [this]; exact okp
      · obtain ⟨l0, f0⟩ := p
        have h3 := wPart_len (w := wT n) l0 f0
        have lenp' : ((l0.map (wItem (wT n))).flatten).length + 5 ≤ 8 * (k2 - k') := lenp
        cases ps with
        | nil =>
          have i0 : i = 0 := hll.symm
          subst i0
          show (wPart (wT n) (l0, f0)).length + 2 * 1 ≤ _
          omega
        | cons p0 pr =>
          have hl0 : pr.length + 1 = i := hll
          rw [wText_snoc _ (p0 :: pr) (by simp), List.length_append, List.length_cons]
          omega
    · obtain ⟨ps, k', kq3, hD3, hT3, hk1, hk2, hAll, hok, hll, hlen⟩ := hJ
      have hDH : H D = none := kq2.1 D hDn
      have Dd : D ≠ d := hD.nd hDH
      have Dt : D ≠ t := fun z => Ht (by rw [← z]; exact hDH)
      refine q _ (show Rt.T (n + 1) from ps) k' _ ⟨kq3, hD3, hT3, by omega⟩ ⟨D, acc, rfl, new_get hDH e3, hAll.map fun v x h => h.ex (TAt.ex n) (new_keep Grow.upd (Kq.refl d t _) (by rw [upd_ne (Ne.symm Dd)]; exact Hd) (by rw [upd_ne (Ne.symm Dt)]; exact Ht))⟩ ⟨fun z => ?_, hok⟩ ?_ (by omega) (by omega)
      · have hll' : List.length (show Rt.T (n + 1) from ps : List (Pt (Rt.T n))) = e := hll
        rw [z] at hll'
        have : 0 = e := hll'
        omega
      · show (wText (wT n) ps).length + 2 ≤ _
        omega
end
end Fk

set_option Elab.async false
set_option linter.all false
set_option maxRecDepth 100000
set_option maxHeartbeats 4000000
namespace Fk
open PySem PySem.Spec PyProof.Rows L2 Fg Rt
local macro_rules | `(tactic| walk_at "rd1") => `(tactic| first
  | with_reducible refine r_seq ?_
  | with_reducible refine r_asg ?_
  | with_reducible refine r_gname ?_
  | with_reducible refine r_gsub ?_
  | with_reducible refine r_ret ?_
  | with_reducible refine r_retN ?_
  | with_reducible refine r_next ?_
  | with_reducible refine r_drop ?_
  | with_reducible refine r_ifS ?_
  | with_reducible refine r_if ?_
  | with_reducible refine r_par ?_
  | with_reducible refine r_pair ?_
  | with_reducible refine r_test ?_
  | with_reducible refine r_tB ?_
  | with_reducible refine r_not ?_
  | with_reducible refine r_and ?_
  | with_reducible refine r_or ?_
  | with_reducible refine r_andV ?_
  | with_reducible refine r_orV ?_
  | with_reducible refine r_notV ?_
  | with_reducible refine r_nil ?_
  | with_reducible refine r_cons ?_
  | with_reducible refine r_call ?_
  | with_reducible refine r_callS ?_
  | with_reducible refine r_cb ?_
  | with_reducible refine r_then ?_
  | with_reducible refine r_tup ?_
  | with_reducible refine r_lst ?_
  | with_reducible refine r_sl ?_
  | with_reducible refine r_nopart ?_
  | with_reducible refine r_part ?_
  | with_reducible refine r_lcR1 ?_
  | with_reducible refine r_lcR2 ?_
  | with_reducible refine r_lcL ?_
  | with_reducible refine r_lcT ?_
  | with_reducible refine r_forR1 ?_
  | with_reducible refine r_forR2 ?_
  | with_reducible refine r_forL ?_
  | with_reducible refine r_forT ?_
  | with_reducible refine r_forE ?_
  | with_reducible refine r_strE ?_
  | ((with_reducible refine r_rng1 ?hc ?_); (case hc => omega))
  | ((with_reducible refine r_rng2 ?hc ?_); (case hc => omega))
  | ((with_reducible refine' r_refL ?hc ?_); (case hc => first | assumption | exact Evl.sq_of (by assumption)))
  | ((with_reducible refine' r_refT ?hc ?_); (case hc => first | assumption | exact Evl.st_of (by assumption)))
  | with_reducible refine r_op ?_
  | with_reducible refine r_un ?_
  | with_reducible refine r_chain ?_
  | ((with_reducible refine' r_var ?hv ?_); (case hv => exact rfl))
  | with_reducible refine r_cS ?_
  | with_reducible refine r_cs ?_
  | with_reducible refine r_c ?_
  | with_reducible refine r_yes ?_
  | with_reducible refine r_bm ?_
  | with_reducible refine r_bl ?_
  | with_reducible refine r_in ?_
  | with_reducible refine r_ty ?_
  | with_reducible refine r_I0 ?_
  | ((with_reducible refine r_I ?hc ?_); (case hc => first | assumption | (show (0 : Int) < _; decide) | exact Or.inr ⟨by decide, by decide⟩ | exact Or.inr ⟨by omega, by omega⟩ | exact Or.inl ⟨by decide, by decide⟩ | exact (show CDivW _ _ from ⟨by decide, by decide +kernel⟩) | exact (show CPowW _ _ from ⟨by decide, by decide +kernel⟩) | (show (0 : Int) < _; omega)))
  | with_reducible refine r_U ?_
  | with_reducible refine r_eqI ?_
  | with_reducible refine r_neI ?_
  | with_reducible refine r_eqS ?_
  | with_reducible refine r_neS ?_
  | with_reducible refine r_eqB ?_
  | with_reducible refine r_neB ?_
  | with_reducible refine r_niS ?_
  | with_reducible refine r_inSS ?_
  | ((with_reducible refine r_slSS ?hc ?_); (case hc => first | exact small (by omega) | exact small (by simp; omega)))
  | ((with_reducible refine r_lenS ?hc ?_); (case hc => first | exact small (by omega) | exact small (by simp; omega)))
  | ((with_reducible refine' r_lenL ?hc ?_); (case hc => first | assumption | exact Evl.sq_of (by assumption)))
  | ((with_reducible refine' r_lenT ?hc ?_); (case hc => first | assumption | exact Evl.st_of (by assumption)))
  | ((with_reducible refine' r_ixL ?h1 ?h2 ?h3 ?_); (case h1 => first | assumption | exact Evl.sq_of (by assumption) | exact Evl.sq_of upd_same); (case h2 => first | decide | omega); (case h3 => first | exact rfl | assumption))
  | ((with_reducible refine' r_ixT ?h1 ?h2 ?h3 ?_); (case h1 => first | assumption | exact Evl.st_of (by assumption)); (case h2 => first | decide | omega); (case h3 => first | exact rfl | assumption))
  | with_reducible refine r_T ?_
  | with_reducible refine r_notNn ?_
  | with_reducible refine r_notN_int ?_
  | with_reducible refine r_notN_str ?_
  | with_reducible refine r_notN_ref ?_
  | with_reducible refine r_isNn ?_
  | with_reducible refine r_isN_int ?_
  | with_reducible refine r_isN_str ?_
  | with_reducible refine r_isN_ref ?_
  | ((with_reducible refine' r_isi ?ht ?hk ?_); (case ht => first | exact .base (.int _) | exact .base (.bl _) | exact .base (.str _) | exact .base .non | exact .base (.lst (by assumption)) | exact .base (.tup (by assumption))); (case hk => first | exact kb_int_int | exact kb_int_bool | exact kb_int_str | exact kb_int_list | exact kb_int_tuple | exact kb_bool_int | exact kb_bool_bool | exact kb_bool_str | exact kb_bool_list | exact kb_bool_tuple | exact kb_str_int | exact kb_str_bool | exact kb_str_str | exact kb_str_list | exact kb_str_tuple | exact kb_NoneType_int | exact kb_NoneType_bool | exact kb_NoneType_str | exact kb_NoneType_list | exact kb_NoneType_tuple | exact kb_list_int | exact kb_list_bool | exact kb_list_str | exact kb_list_list | exact kb_list_tuple | exact kb_tuple_int | exact kb_tuple_bool | exact kb_tuple_str | exact kb_tuple_list | exact kb_tuple_tuple))
  | with_reducible refine r_F ?_
  | with_reducible refine r_nT ?_
  | with_reducible refine r_nF ?_
  | with_reducible refine r_mko ?_
  | with_reducible refine r_xf ?_
  | ((with_reducible refine' r_sum ?hc ?_); (case hc => first | assumption | exact Evl.sq_of (by assumption)))
  | ((with_reducible refine' r_setL ?h1 ?h2 ?h3 ?_); (case h1 => first | assumption | exact upd_same); (case h2 => first | decide | omega); (case h3 => first | (show _ < _; decide) | (simp; done)))
  | with_reducible refine r_int ?_
  | with_reducible refine r_abs ?_)
local macro_rules | `(tactic| walk_at "rd") => `(tactic| repeat (walk_at "rd1"))

section
variable {P : Program} {w : World} {K : PySem.W.Frag} {mg : Str → Option Value} {base : Heap}
theorem can_frees (T : Bi mg) (F1 : Defd K mg "_law_free_part" s_l_free_part ["_law_draw_here", "_law_depth", "_law_tally"]) (F2 : Defd K mg "_law_free_text" s_l_free_text ["_law_draw_here", "_law_depth", "_law_tally"]) (C_l_pick : Can P w K mg base L2.CX0 2 "_law_pick" ["_law_draw_here", "_law_many"] spPick) (C_l_sign : Can P w K mg base L2.CX0 3 "_law_sign" ["_law_draw_here"] spSign)
    (CI : ∀ n : Nat, Can P w K mg base L2.CX0 (2 + 3 * n) "_law_item_count" ["_law_item"] (spItemC n)) :
    ∀ n : Nat, n ≤ 7 → Can P w K mg base L2.CX0 (10 + 2 * n) "_law_free_text" ["_law_draw_here", "_law_depth", "_law_tally"] (spFreeText n) := by
  have two : ∀ (n : Nat), n ≤ 6 → Can P w K mg base L2.CX0 (10 + 2 * n) "_law_free_text" ["_law_draw_here", "_law_depth", "_law_tally"] (spFreeText n) → Can P w K mg base L2.CX0 (11 + 2 * n) "_law_free_part" ["_law_draw_here", "_law_depth", "_law_tally"] (spFreePart n) := by
    intro n hn h
    have h1 := can_l_free_part (k := 10 + 2 * n) (j := 2 + 3 * n) T F1 hn (by omega) (by omega) C_l_pick C_l_sign (CI n) h
    rw [show 10 + 2 * n + 1 = 11 + 2 * n by omega] at h1
    exact h1
  intro n
  induction n with
  | zero =>
    intro _
    exact can0 (k := 9) F2 sc_l_free_text (fun vs H Q E h => by obtain ⟨_, _, _, _, _, _, rfl, _⟩ := h; rfl) (fun f cdv A outer s H vs Q E hr h => by obtain ⟨_, _, _, dp, _, _, _, _, _, _, _, _, z1, z2, _⟩ := h; omega)
  | succ n ih =>
    intro hn
    have i1 := two n (by omega) (ih (by omega))
    have h := can_l_free_text (n := n) (k := 11 + 2 * n) T F2 (by omega) C_l_pick i1
    rw [show 11 + 2 * n + 1 = 10 + 2 * (n + 1) by omega] at h
    exact h
/-! ### a text of less levels as one of seven, in the heap too -/
theorem All2.mapR {α β : Type} {R : V → α → Prop} {R' : V → β → Prop} {f : α → β} {vs : List V} {xs : List α} (h : All2 R vs xs) (e : ∀ v x, R v x → R' v (f x)) : All2 R' vs (xs.map f) := ⟨by rw [List.length_map]; exact h.1, h.2.1, fun k v y h1 h2 => by
  rw [List.getElem?_map] at h2
  cases hx : xs[k]? with
  | none => rw [hx] at h2; cases h2
  | some x => rw [hx] at h2; cases h2; exact e v x (h.2.2 k v x h1 hx)⟩
theorem TxAt.mX {α β : Type} {A : Hp → V → α → Prop} {A' : Hp → V → β → Prop} {f : α → β} {H : Hp} (e : ∀ v x, A H v x → A' H v (f x)) {v : V} {ps : Tx α} (h : TxAt A H v ps) : TxAt A' H v (Rt.mX f ps) := by
  obtain ⟨b, vs, h1, h2, h3⟩ := h
  refine ⟨b, vs, h1, h2, h3.mapR fun v p hp => ?_⟩
  obtain ⟨a, b, vs, g1, g2, g3, g4⟩ := hp
  refine ⟨a, b, vs, g1, g2, g3, g4.mapR fun v i hi => ?_⟩
  obtain ⟨t, c⟩ := i
  obtain ⟨a, k1, k2⟩ := hi
  cases c with
  | inl c => exact ⟨a, k1, k2⟩
  | inr x =>
    obtain ⟨y, k3, k4⟩ := k2
    exact ⟨a, k1, y, k3, e y x k4⟩
theorem lift_at : ∀ (n : Nat) (H : Hp) (v : V) (x : T n), TAt n H v x → TAt (n + 1) H v (lift n x)
  | 0, _, _, x, _ => nomatch x
  | n + 1, H, v, x, h => TxAt.mX (A := TAt n) (A' := TAt (n + 1)) (f := lift n) (fun v x h => lift_at n H v x h) h
theorem to7A : ∀ (k n : Nat), n + k = 7 → ∀ x : T n, okT n x → ∃ y : T 7, okT 7 y ∧ wT 7 y = wT n x ∧ ∀ H v, TAt n H v x → TAt 7 H v y
  | 0, n, e, x, hx => by
    have : n = 7 := by omega
    subst this
    exact ⟨x, hx, rfl, fun _ _ h => h⟩
  | k + 1, n, e, x, hx => by
    obtain ⟨y, h1, h2, h3⟩ := to7A k (n + 1) (by omega) (lift n x) (lift_ok n x hx)
    exact ⟨y, h1, by rw [h2, lift_w], fun H v h => h3 H v (lift_at n H v x h)⟩
def spText7 : Sp := fun vs H Q _ => ∃ (c d : Addr) (ns : List Int), vs = [.ref d] ∧ Dr ns c d H ∧ ∀ (v : V) (x : T 7) H', Kq d d H H' → Dr ns c d H' → TAt 7 (New H H') v x → okT 7 x → (wT 7 x).length ≤ 1400 → Q v H'
abbrev s_l_text : Stmt := topS 46
abbrev N_l_text : List Str := ["_law_draw_here", "_law_kind"]
theorem sc_l_text : FnScope ["_law_draw_here", "_law_kind"] ["_law_draw_here"] (defScope s_l_text) := ⟨rfl, rfl, rfl, by decide +kernel, rfl, by decide +kernel, by decide +kernel⟩
theorem can_l_text (T : Bi mg) (F : Defd K mg "_law_text" s_l_text ["_law_draw_here"]) (C_l_pick : Can P w K mg base L2.CX0 2 "_law_pick" ["_law_draw_here", "_law_many"] spPick) (C_l_room_text : Can P w K mg base L2.CX0 20 "_law_room_text" ["_law_draw_here", "_law_room", "_law_depth", "_law_tally"] (spRoomText 5)) (C_l_edge_text : Can P w K mg base L2.CX0 20 "_law_edge_text" ["_law_draw_here"] (spText 1400)) (C_l_free_text : Can P w K mg base L2.CX0 24 "_law_free_text" ["_law_draw_here", "_law_depth", "_law_tally"] (spFreeText 7)) (C_l_deep_text : Can P w K mg base L2.CX0 13 "_law_deep_text" ["_law_draw_here"] (spText 1400)) : Can P w K mg base L2.CX0 25 "_law_text" ["_law_draw_here"] spText7 := by
  refine can0 F sc_l_text (fun vs H Q E h => ?_) (fun f cdv A outer s H vs Q E hr h => ⟨_, (pss_cons (ps_set (i := 1) sc_l_text.nd rfl (by first | exact Or.inl rfl | exact Or.inr rfl) (pe_can C_l_pick hr (by decide) rfl (pa_cons (pv 0) (pa_cons pe_int pa_nil))))
  (pss_cons (ps_if (pt_cmpR op_lt (pv 1) pe_int (nomark _)) (pss_one (ps_ret (pe_can C_l_room_text hr (by decide) rfl (pa_cons (pv 0) (pa_cons (pe_ix ix_list (pe_lst (pa_cons pe_int (pa_cons pe_int (pa_cons pe_int (pa_cons pe_int pa_nil))))) (pv 1) (fun _ _ => rfl)) (pa_cons pe_int (pa_cons (pe_lst pa_nil) pa_nil))))))) pss_nil)
  (pss_cons (ps_if (pt_cmpR op_eq (pv 1) pe_int (nomark _)) (pss_one (ps_ret (pe_can C_l_edge_text hr (by decide) rfl (pa_cons (pv 0) pa_nil)))) pss_nil)
  (pss_cons (ps_if (pt_cmpR op_eq (pv 1) pe_int (nomark _)) (pss_one (ps_ret (pe_can C_l_free_text hr (by decide) rfl (pa_cons (pv 0) (pa_cons pe_int (pa_cons (pe_lst pa_nil) pa_nil)))))) pss_nil)
  (pss_one (ps_ret (pe_can C_l_deep_text hr (by decide) rfl (pa_cons (pv 0) pa_nil)))))))), ?_⟩)
  · obtain ⟨_, _, _, rfl, _⟩ := h
    rfl
  · obtain ⟨c, d, ns, rfl, hD, q⟩ := h
    have Hd : H d ≠ none := hD.some
    walk_at "rd"
    refine ⟨c, d, 8, ns, rfl, hD, by decide, fun kd H1 kd0 kd1 kp1 hD1 => ?_⟩
    have kq1 := Kq.pick (t := d) kp1 hD1
    have Hd1 : H1 d ≠ none := hD1.some
    have fin : ∀ (v : V) (n : Nat) (x : Rt.T n) (H2 : Hp), n ≤ 7 → Kq d d H1 H2 → Dr ns c d H2 → TAt n (New H1 H2) v x → okT n x → (wT n x).length ≤ 1400 → Q v H2 := by
      intro v n x H2 hn kq2 hD2 hx ok hl
      obtain ⟨y, h1, h2, h3⟩ := to7A (7 - n) n (by omega) x ok
      have hx2 := TAt.ex n _ _ _ _ (new_keep kq1.1 (Kq.refl d d H2) Hd1 Hd1) hx
      exact q v y H2 (kq1.trans kq2) hD2 (h3 _ _ hx2) h1 (by rw [h2]; exact hl)
    have list : ∀ (t : Addr), H1 t = none → True := fun _ _ => trivial
    walk_at "rd"
    refine r_ite (fun h => ?_) (fun h => ?_)
    · walk_at "rd"
      refine ⟨small (by show 4 ≤ 1000000; decide), fun G hG => ?_⟩
      have exG := Evl.Ex.new (o := .lst [.int 24, .int 24, .int 12, .int 6]) hG
      have gG : (upd H1 G (.lst [.int 24, .int 24, .int 12, .int 6])) G = some (.lst [.int 24, .int 24, .int 12, .int 6]) := upd_same
      generalize upd H1 G (.lst [.int 24, .int 24, .int 12, .int 6]) = H2 at exG gG ⊢
      have hD2 := hD1.ex' exG
      obtain ⟨e, he, he2, he3⟩ : ∃ e : Nat, ([.int 24, .int 24, .int 12, .int 6] : List V)[kd.toNat]? = some (.int (e : Int)) ∧ 1 ≤ e ∧ e ≤ 24 := by
        have m5 : kd.toNat < 4 := by omega
        generalize kd.toNat = a at m5
        match a, m5 with
        | 0, _ => exact ⟨24, rfl, by decide, by decide⟩
        | 1, _ => exact ⟨24, rfl, by decide, by decide⟩
        | 2, _ => exact ⟨12, rfl, by decide, by decide⟩
        | 3, _ => exact ⟨6, rfl, by decide, by decide⟩
      walk_at "rd"
      refine ⟨small (by show 0 ≤ 1000000; decide), fun t ht => ?_⟩
      have td : t ≠ d := hD2.nd ht
      have tc : t ≠ c := hD2.nc ht
      have exT := Evl.Ex.new (o := .lst []) ht
      have gT : (upd H2 t (.lst [])) t = some (.lst []) := upd_same
      obtain ⟨H3, hH3⟩ : ∃ H3, H3 = upd H2 t (.lst []) := ⟨_, rfl⟩
      rw [← hH3] at exT gT ⊢
      have hD3 := hD2.ex' exT
      have hT3 : Tally t 0 H3 := gT
      have Hd3 : H3 d ≠ none := hD3.some
      have Ht3 : H3 t ≠ none := fun z => by rw [gT] at z; cases z
      walk_at "rd"
      refine ⟨c, d, t, e, 0, 0, ns, rfl, hD3, hT3, td, tc, he2, he3, by decide, by decide, by decide, fun v x k1 H4 M hx ok cx lx k1lt k1le => ?_⟩
      have kqE := (Kq.of (d := d) (t := d) exG).trans (Kq.drop ht hH3 M.kq)
      exact fin v 5 x H4 (by decide) kqE M.dr (TAt.ex 5 _ _ _ _ (new_keep ((Grow.ex exG).trans (Grow.ex exT)) (Kq.refl d t H4) Hd3 Ht3) hx) ok (by omega)
    · walk_at "rd"
      refine r_ite (fun h4 => ?_) (fun h4 => ?_)
      · walk_at "rd"
        exact ⟨c, d, ns, rfl, hD1, fun v n x H2 hn kq2 hD2 hx ok hl => fin v n x H2 hn kq2 hD2 hx ok hl⟩
      · walk_at "rd"
        refine r_ite (fun h5 => ?_) (fun h5 => ?_)
        · walk_at "rd"
          refine ⟨small (by show 0 ≤ 1000000; decide), fun t ht => ?_⟩
          have td : t ≠ d := hD1.nd ht
          have tc : t ≠ c := hD1.nc ht
          have exT := Evl.Ex.new (o := .lst []) ht
          have gT : (upd H1 t (.lst [])) t = some (.lst []) := upd_same
          obtain ⟨H3, hH3⟩ : ∃ H3, H3 = upd H1 t (.lst []) := ⟨_, rfl⟩
          rw [← hH3] at exT gT ⊢
          have hD3 := hD1.ex' exT
          have hT3 : Tally t 0 H3 := gT
          have Hd3 : H3 d ≠ none := hD3.some
          have Ht3 : H3 t ≠ none := fun z => by rw [gT] at z; cases z
          walk_at "rd"
          refine ⟨c, d, t, 0, 0, ns, rfl, hD3, hT3, td, tc, by decide, by decide, by decide, fun v x k1 H4 M hx ok lx k1lt k1le => ?_⟩
          exact fin v 7 x H4 (by decide) (Kq.drop ht hH3 M.kq) M.dr (TAt.ex 7 _ _ _ _ (new_keep (Grow.ex exT) (Kq.refl d t H4) Hd3 Ht3) hx) ok (by omega)
        · walk_at "rd"
          exact ⟨c, d, ns, rfl, hD1, fun v n x H2 hn kq2 hD2 hx ok hl => fin v n x H2 hn kq2 hD2 hx ok hl⟩
end
end Fk

set_option Elab.async false
set_option linter.all false
set_option maxRecDepth 100000
set_option maxHeartbeats 4000000
namespace Fk
open PySem PySem.Spec PyProof.Rows L2 Fg Rt
local macro_rules | `(tactic| walk_at "rd1") => `(tactic| first
  | with_reducible refine r_seq ?_
  | with_reducible refine r_asg ?_
  | with_reducible refine r_gname ?_
  | with_reducible refine r_gsub ?_
  | with_reducible refine r_ret ?_
  | with_reducible refine r_retN ?_
  | with_reducible refine r_next ?_
  | with_reducible refine r_drop ?_
  | with_reducible refine r_ifS ?_
  | with_reducible refine r_if ?_
  | with_reducible refine r_par ?_
  | with_reducible refine r_pair ?_
  | with_reducible refine r_test ?_
  | with_reducible refine r_tB ?_
  | with_reducible refine r_not ?_
  | with_reducible refine r_and ?_
  | with_reducible refine r_or ?_
  | with_reducible refine r_andV ?_
  | with_reducible refine r_orV ?_
  | with_reducible refine r_notV ?_
  | with_reducible refine r_nil ?_
  | with_reducible refine r_cons ?_
  | with_reducible refine r_call ?_
  | with_reducible refine r_callS ?_
  | with_reducible refine r_cb ?_
  | with_reducible refine r_then ?_
  | with_reducible refine r_tup ?_
  | with_reducible refine r_lst ?_
  | with_reducible refine r_sl ?_
  | with_reducible refine r_nopart ?_
  | with_reducible refine r_part ?_
  | with_reducible refine r_lcR1 ?_
  | with_reducible refine r_lcR2 ?_
  | with_reducible refine r_lcL ?_
  | with_reducible refine r_lcT ?_
  | with_reducible refine r_forR1 ?_
  | with_reducible refine r_forR2 ?_
  | with_reducible refine r_forL ?_
  | with_reducible refine r_forT ?_
  | with_reducible refine r_forE ?_
  | with_reducible refine r_strE ?_
  | ((with_reducible refine r_rng1 ?hc ?_); (case hc => omega))
  | ((with_reducible refine r_rng2 ?hc ?_); (case hc => omega))
  | ((with_reducible refine' r_refL ?hc ?_); (case hc => first | assumption | exact Evl.sq_of (by assumption)))
  | ((with_reducible refine' r_refT ?hc ?_); (case hc => first | assumption | exact Evl.st_of (by assumption)))
  | with_reducible refine r_op ?_
  | with_reducible refine r_un ?_
  | with_reducible refine r_chain ?_
  | ((with_reducible refine' r_var ?hv ?_); (case hv => exact rfl))
  | with_reducible refine r_cS ?_
  | with_reducible refine r_cs ?_
  | with_reducible refine r_c ?_
  | with_reducible refine r_yes ?_
  | with_reducible refine r_bm ?_
  | with_reducible refine r_bl ?_
  | with_reducible refine r_in ?_
  | with_reducible refine r_ty ?_
  | with_reducible refine r_I0 ?_
  | ((with_reducible refine r_I ?hc ?_); (case hc => first | assumption | (show (0 : Int) < _; decide) | exact Or.inr ⟨by decide, by decide⟩ | exact Or.inr ⟨by omega, by omega⟩ | exact Or.inl ⟨by decide, by decide⟩ | exact (show CDivW _ _ from ⟨by decide, by decide +kernel⟩) | exact (show CPowW _ _ from ⟨by decide, by decide +kernel⟩) | (show (0 : Int) < _; omega)))
  | with_reducible refine r_U ?_
  | with_reducible refine r_eqI ?_
  | with_reducible refine r_neI ?_
  | with_reducible refine r_eqS ?_
  | with_reducible refine r_neS ?_
  | with_reducible refine r_eqB ?_
  | with_reducible refine r_neB ?_
  | with_reducible refine r_niS ?_
  | with_reducible refine r_inSS ?_
  | ((with_reducible refine r_slSS ?hc ?_); (case hc => first | exact small (by omega) | exact small (by simp; omega)))
  | ((with_reducible refine r_lenS ?hc ?_); (case hc => first | exact small (by omega) | exact small (by simp; omega)))
  | ((with_reducible refine' r_lenL ?hc ?_); (case hc => first | assumption | exact Evl.sq_of (by assumption)))
  | ((with_reducible refine' r_lenT ?hc ?_); (case hc => first | assumption | exact Evl.st_of (by assumption)))
  | ((with_reducible refine' r_ixL ?h1 ?h2 ?h3 ?_); (case h1 => first | assumption | exact Evl.sq_of (by assumption) | exact Evl.sq_of upd_same); (case h2 => first | decide | omega); (case h3 => first | exact rfl | assumption))
  | ((with_reducible refine' r_ixT ?h1 ?h2 ?h3 ?_); (case h1 => first | assumption | exact Evl.st_of (by assumption)); (case h2 => first | decide | omega); (case h3 => first | exact rfl | assumption))
  | with_reducible refine r_T ?_
  | with_reducible refine r_notNn ?_
  | with_reducible refine r_notN_int ?_
  | with_reducible refine r_notN_str ?_
  | with_reducible refine r_notN_ref ?_
  | with_reducible refine r_isNn ?_
  | with_reducible refine r_isN_int ?_
  | with_reducible refine r_isN_str ?_
  | with_reducible refine r_isN_ref ?_
  | ((with_reducible refine' r_isi ?ht ?hk ?_); (case ht => first | exact .base (.int _) | exact .base (.bl _) | exact .base (.str _) | exact .base .non | exact .base (.lst (by assumption)) | exact .base (.tup (by assumption))); (case hk => first | exact kb_int_int | exact kb_int_bool | exact kb_int_str | exact kb_int_list | exact kb_int_tuple | exact kb_bool_int | exact kb_bool_bool | exact kb_bool_str | exact kb_bool_list | exact kb_bool_tuple | exact kb_str_int | exact kb_str_bool | exact kb_str_str | exact kb_str_list | exact kb_str_tuple | exact kb_NoneType_int | exact kb_NoneType_bool | exact kb_NoneType_str | exact kb_NoneType_list | exact kb_NoneType_tuple | exact kb_list_int | exact kb_list_bool | exact kb_list_str | exact kb_list_list | exact kb_list_tuple | exact kb_tuple_int | exact kb_tuple_bool | exact kb_tuple_str | exact kb_tuple_list | exact kb_tuple_tuple))
  | with_reducible refine r_F ?_
  | with_reducible refine r_nT ?_
  | with_reducible refine r_nF ?_
  | with_reducible refine r_mko ?_
  | with_reducible refine r_xf ?_
  | ((with_reducible refine' r_sum ?hc ?_); (case hc => first | assumption | exact Evl.sq_of (by assumption)))
  | ((with_reducible refine' r_setL ?h1 ?h2 ?h3 ?_); (case h1 => first | assumption | exact upd_same); (case h2 => first | decide | omega); (case h3 => first | (show _ < _; decide) | (simp; done)))
  | with_reducible refine r_int ?_
  | with_reducible refine r_abs ?_)
local macro_rules | `(tactic| walk_at "rd") => `(tactic| repeat (walk_at "rd1"))

section
variable {P : Program} {w : World} {K : PySem.W.Frag} {mg : Str → Option Value} {base : Heap}
theorem r_lcS {σ : L2.St} {H : Hp} {Q : VK} {tl te : TE} {tt : TT} {vs : List Nat} {g : TG} (q : tl σ H fun v H1 => ∃ x, v = .str x ∧ LcP (Its x) g tt te vs σ H1 Q) : tLc (iStr tl) g tt te vs σ H Q := q
theorem lcS {σ : L2.St} {H1 : Hp} {Q : VK} {te : TE} {tt : TT} {vs : List Nat} {j : Nat} {l : List Nat} (J : Addr → Nat → List V → Hp → Prop) (hw : ∀ x, wipe ((wipe σ vs).set j (some x)) vs = wipe σ vs)
    (h0 : ∀ D, H1 D = none → J D 0 [] (upd H1 D (.lst [])))
    (hs : ∀ D i c H2 acc, H1 D = none → l[i]? = some c → H2 D = some (.lst acc) → acc.length ≤ i → J D i acc H2 → tt ((wipe σ vs).set j (some (.str (S [c])))) H2 fun b H3 =>
      if b = true then te ((wipe σ vs).set j (some (.str (S [c])))) H3 fun y H4 => ∃ acc, H4 D = some (.lst acc) ∧ acc.length < sizeLine ∧ LcI J D (i + 1) (upd H4 D (.lst (acc ++ [y]))) else LcI J D (i + 1) H3)
    (hd : ∀ D H2 acc, H1 D = none → H2 D = some (.lst acc) → J D l.length acc H2 → Q (.ref D) H2) : LcP (Its (S l)) (gName j) tt te vs σ H1 Q := fun D hD => by
  have e : (S l).cps.size = l.length := by simp [S]
  refine lc_it walk_str (LcI J D) ⟨[], upd_same, Nat.le_refl _, h0 D hD⟩ (fun _ _ _ _ => trivial) (fun i x H H' hi hI y => ?_) (fun H2 hI => ?_)
  · obtain ⟨acc, h1, h2, h3⟩ := hI
    obtain ⟨rfl, c, hc, rfl⟩ := y
    have hc' : l[i]? = some c := by simpa [S] using hc
    exact ⟨hw _, hs D i c _ acc hD hc' h1 h2 h3⟩
  · obtain ⟨acc, h1, h2, h3⟩ := hI
    rw [e] at h3
    exact hd D H2 acc hD h1 h3
def spLaw (K : PySem.W.Frag) : Sp := fun vs H Q _ => ∃ (a : Addr) (ns : List Int), vs = [.ref a] ∧ SqL K H a (ns.map V.int) ∧ ns.length ≤ 63 ∧ ∀ H', Q (.bl true) H'
abbrev it0 {α : Type} (c : Nat) : It α := (0, .inl c)
theorem plain_w {α : Type} {w : α → List Nat} : ∀ l : List Nat, ((l.map (it0 (α := α))).map (wItem w)).flatten = l
  | [] => rfl
  | c :: l => by
    show wItem w (0, .inl c) ++ ((l.map (it0 (α := α))).map (wItem w)).flatten = c :: l
    rw [plain_w l]
    rfl
abbrev s_law : Stmt := topS 50
abbrev N_law : List Str := ["_law_script", "_law_draw_here", "_law_first", "_law_second", "_law_parts", "_law_plain", "_law_turn", "_law_sign_here"]
theorem sc_law : FnScope ["_law_script", "_law_draw_here", "_law_first", "_law_second", "_law_parts", "_law_plain", "_law_turn", "_law_sign_here"] ["_law_script"] (defScope s_law) := ⟨rfl, rfl, rfl, by decide +kernel, rfl, by decide +kernel, by decide +kernel⟩
theorem ok_law (T : Bi mg) {f : Addr} {fd : FuncData} (F : Fun K "law" "law" s_law f fd) (C_l_draw : Can P w K mg base L2.CX0 1 "_law_draw" ["_law_script"] (spDraw K)) (C_l_text : Can P w K mg base L2.CX0 25 "_law_text" ["_law_draw_here"] spText7) (C_l_agree : Can P w K mg base L2.CX0 2 "_law_agree" ["_law_told_here", "_law_due_here"] spAgree) (C_l_told : Can P w K mg base L2.CX0 26 "_law_told" ["_law_text_here"] (spTold 7)) (C_l_write : Can P w K mg base L2.CX0 22 "_law_write" ["_law_parts"] (spWrite 7)) (C_l_due : Can P w K mg base L2.CX0 24 "_law_due" ["_law_parts"] (spDue 7)) (C_l_pick : Can P w K mg base L2.CX0 2 "_law_pick" ["_law_draw_here", "_law_many"] spPick) (C_l_sign : Can P w K mg base L2.CX0 3 "_law_sign" ["_law_draw_here"] spSign) : FnOk P w K mg base L2.CX0 27 f fd ["_law_script"] (spLaw K) := by
  refine F.ok sc_law (fun vs H Q E h => ?_) (fun cdv A outer s H vs Q E hr h => ⟨_, (pss_cons (ps_set (i := 1) sc_law.nd rfl (by first | exact Or.inl rfl | exact Or.inr rfl) (pe_can C_l_draw hr (by decide) rfl (pa_cons (pv 0) pa_nil)))
  (pss_cons (ps_set (i := 2) sc_law.nd rfl (by first | exact Or.inl rfl | exact Or.inr rfl) (pe_can C_l_text hr (by decide) rfl (pa_cons (pv 1) pa_nil)))
  (pss_cons (ps_set (i := 3) sc_law.nd rfl (by first | exact Or.inl rfl | exact Or.inr rfl) (pe_can C_l_text hr (by decide) rfl (pa_cons (pv 1) pa_nil)))
  (pss_cons (ps_for PassesOwn.never rfl (pi_list (pe_lst (pa_cons (pv 2) (pa_cons (pv 3) (pa_cons (pv 2) pa_nil))))) (pg_name (i := 4) sc_law.nd rfl (by first | exact Or.inl rfl | exact Or.inr rfl))
    (pss_one (ps_if (pt_not (pt_val (pe_can C_l_agree hr (by decide) rfl (pa_cons (pe_can C_l_told hr (by decide) rfl (pa_cons (pe_can C_l_write hr (by decide) rfl (pa_cons (pv 4) pa_nil)) pa_nil)) (pa_cons (pe_can C_l_due hr (by decide) rfl (pa_cons (pv 4) pa_nil)) pa_nil))))) (pss_one (ps_ret pe_bl)) pss_nil)))
  (pss_cons (ps_set (i := 5) sc_law.nd rfl (by first | exact Or.inl rfl | exact Or.inr rfl) (pe_bm PySem.F.plainAttrs_str PySem.F.slot_str_join PySem.F.type_str_join mt_joinS (pe_strL [] (by decide +kernel)) (pa_cons (pe_lc (own := [("_law_turn", 6)]) (g := gName 6) (tt := tYes) rfl sc_law.nd (pi_range1 rfl T.b_range (pa_cons (pe_op op_add pe_int (pe_can C_l_pick hr (by decide) rfl (pa_cons (pv 1) (pa_cons pe_int pa_nil)))) pa_nil)) (blkOk_by (N := N_law) (sc := defScope s_law) (by decide +kernel)) (fun _ _ _ _ _ => pg_name (i := 6) sc_law.nd rfl (Or.inl rfl)) (fun _ _ _ _ _ => pts_nil) (fun _ _ _ _ _ => (pe_can C_l_sign hr (by decide) rfl (pa_cons (pv 1) pa_nil)))) pa_nil)))
  (pss_one (ps_ret (pe_can C_l_agree hr (by decide) rfl (pa_cons (pe_can C_l_told hr (by decide) rfl (pa_cons (pv 5) pa_nil)) (pa_cons (pe_can C_l_due hr (by decide) rfl (pa_cons (pe_lst (pa_cons (pe_tup (pa_cons (pe_lc (own := [("_law_sign_here", 7)]) (g := gName 7) (tt := tYes) rfl sc_law.nd (pi_str (pv 5)) (blkOk_by (N := N_law) (sc := defScope s_law) (by decide +kernel)) (fun _ _ _ _ _ => pg_name (i := 7) sc_law.nd rfl (Or.inl rfl)) (fun _ _ _ _ _ => pts_nil) (fun _ _ _ _ _ => (pe_tup (pa_cons pe_int (pa_cons (pv 7) pa_nil))))) (pa_cons pe_int pa_nil))) pa_nil)) pa_nil)) pa_nil)))))))))), ?_⟩)
  · obtain ⟨_, _, rfl, _⟩ := h
    rfl
  · obtain ⟨a0, ns, rfl, hS, hn, q⟩ := h
    walk_at "rd"
    refine ⟨a0, ns, rfl, hS, hn, fun c d H1 hc hd ex0 hD1 => ?_⟩
    have Hd1 : H1 d ≠ none := hD1.some
    walk_at "rd"
    refine ⟨c, d, ns, rfl, hD1, fun v1 x1 H2 kq2 hD2 hx1 ok1 len1 => ?_⟩
    walk_at "rd"
    refine ⟨c, d, ns, rfl, hD2, fun v2 x2 H3 kq3 hD3 hx2 ok2 len2 => ?_⟩
    have hx1' : TAt 7 (New H1 H3) v1 x1 := TAt.ex 7 _ _ _ _ (new_keep (Grow.refl _) kq3 Hd1 Hd1) hx1
    walk_at "rd"
    refine ⟨small (by show 3 ≤ 1000000; decide), fun m hm => ?_⟩
    have exm := Evl.Ex.new (o := .lst [v1, v2, v1]) hm
    have gm : (upd H3 m (.lst [v1, v2, v1])) m = some (.lst [v1, v2, v1]) := upd_same
    generalize upd H3 m (.lst [v1, v2, v1]) = H4 at exm gm ⊢
    have hD4 := hD3.ex' exm
    have all : ∀ y ∈ ([v1, v2, v1] : List V), ∃ x : Rt.T 7, TAt 7 H4 y x ∧ okT 7 x ∧ (wT 7 x).length ≤ 1400 := by
      intro y hy
      have b1 : TAt 7 H4 v1 x1 := TAt.ex 7 _ _ _ _ exm (TAt.ex 7 _ _ _ _ new_sub hx1')
      have b2 : TAt 7 H4 v2 x2 := TAt.ex 7 _ _ _ _ exm (TAt.ex 7 _ _ _ _ new_sub hx2)
      simp only [List.mem_cons, List.not_mem_nil, or_false] at hy
      rcases hy with h | h | h
      · rw [h]; exact ⟨x1, b1, ok1, len1⟩
      · rw [h]; exact ⟨x2, b2, ok2, len2⟩
      · rw [h]; exact ⟨x1, b1, ok1, len1⟩
    generalize hml : ([v1, v2, v1] : List V) = ml at all gm
    walk_at "rd"
    refine forL (xs := ml) (fun _ σ' H' => ∃ o4 o5 o6 o7, σ' = [some (.ref a0), some (.ref d), some v1, some v2, o4, o5, o6, o7] ∧ Ex H4 H') ⟨_, _, _, _, rfl, Evl.Ex.refl _⟩ (fun i σ' H' hi hJ => ?_) (fun i y σ' H5 hy hJ => ?_) (fun σ' H5 hJ => ?_)
    · obtain ⟨o4, o5, o6, o7, rfl, ex⟩ := hJ
      exact Evl.sq_of (ex _ _ gm)
    · obtain ⟨o4, o5, o6, o7, rfl, ex⟩ := hJ
      obtain ⟨x, hx, ok, len⟩ := all y (List.mem_of_getElem? hy)
      walk_at "rd"
      refine ⟨y, x, rfl, TAt.ex 7 _ _ _ _ ex hx, ok, by omega, fun H6 ex6 => ?_⟩
      walk_at "rd"
      refine ⟨x, rfl, by decide, ok, len, fun p H7 ex7 hp => ?_⟩
      walk_at "rd"
      refine ⟨y, x, rfl, TAt.ex 7 _ _ _ _ ((ex.trans ex6).trans ex7) hx, ok, cT_big (by decide) x ok len, fun r H8 ex8 hr8 => ?_⟩
      walk_at "rd"
      refine ⟨p, r, _, _, rfl, ex8 _ _ hp, hr8, ?_⟩
      walk_at "rd"
      exact ⟨_, _, _, _, rfl, ((ex.trans ex6).trans ex7).trans ex8⟩
    obtain ⟨o4, o5, o6, o7, rfl, ex⟩ := hJ
    have hD5 := hD4.ex' ex
    clear all gm hx1 hx2 hx1'
    walk_at "rd"
    refine ⟨c, d, 26, ns, rfl, hD5, by decide, fun k H6 k0 k1 kp6 hD6 => ?_⟩
    walk_at "rd"
    have kN : (1 + k).toNat ≤ 26 := by omega
    have kN1 : 1 ≤ (1 + k).toNat := by omega
    generalize (1 + k).toNat = N at kN kN1 ⊢
    refine lcR (fun D i acc H' => ∃ l : List Nat, acc = l.map (fun c => V.str (S [c])) ∧ l.length = i ∧ (∀ x ∈ l, isSg x = true) ∧ Dr ns c d H') (fun _ => rfl) (fun D hDn => ⟨[], rfl, rfl, fun x hx => (nomatch hx), hD6.ex' (Evl.Ex.new hDn)⟩) (fun D i H7 acc hDn hi e7 hl7 hJ => ?_) (fun D H7 acc hDn e7 hJ => ?_)
    · obtain ⟨l, rfl, hl, hsg, hD7⟩ := hJ
      have Dd : D ≠ d := hD6.nd hDn
      have Dc : D ≠ c := hD6.nc hDn
      walk_at "rd"
      refine ⟨c, d, ns, rfl, hD7, fun ch H8 hch kp8 hD8 => ?_⟩
      refine lc_end (by omega) hl7 (kp8 _ _ Dd e7) ⟨l ++ [ch], by rw [List.map_append]; rfl, by rw [List.length_append, hl]; rfl, fun x hx => ?_, hD8.mut Dc Dd⟩
      rcases List.mem_append.mp hx with z | z
      · exact hsg x z
      · have : x = ch := by simpa using z
        rw [this]; exact hch
    obtain ⟨l, rfl, hl, hsg, hD7⟩ := hJ
    have ok0 : okT 1 (show Rt.T 1 from [(l.map it0, 0)]) := ⟨by simp, fun p hp => by
      have e : p = (l.map it0, 0) := by simpa using hp
      rw [e]
      refine ⟨fun z => ?_, fun i hi => ?_, .inl rfl⟩
      · have : l = [] := List.map_eq_nil_iff.mp z
        rw [this] at hl
        have : 0 = N := hl
        omega
      · obtain ⟨x, hx, rfl⟩ := List.mem_map.mp hi
        exact ⟨hsg x hx, .inl rfl⟩⟩
    have w0 : wT 1 (show Rt.T 1 from [(l.map it0, 0)]) = l := by
      show ((l.map it0).map (wItem (wT 0))).flatten ++ [] = l
      rw [List.append_nil, plain_w]
    obtain ⟨x7, ok7, w7, at7⟩ := to7A 6 1 rfl _ ok0
    rw [w0] at w7
    have len7 : (wT 7 x7).length ≤ 1400 := by rw [w7]; omega
    walk_at "rd"
    refine r_joinC (Evl.sq_of e7) (by omega) ?_
    walk_at "rd"
    refine ⟨x7, by rw [w7]; rfl, by decide, ok7, len7, fun p H10 ex10 hp => ?_⟩
    walk_at "rd"
    refine r_lcS ?_
    walk_at "rd"
    refine ⟨_, rfl, ?_⟩
    refine lcS (fun D i acc H' => Ex H10 H' ∧ All2 (ItAt (TAt 0) (New (upd H10 D (.lst [])) H')) acc ((l.take i).map it0)) (fun _ => rfl) (fun D hDn => ⟨Evl.Ex.new hDn, ⟨rfl, by decide, fun k v x h => by cases h⟩⟩) (fun D i ch H11 acc hDn hi e11 hl11 hJ => ?_) (fun D H11 acc hDn e11 hJ => ?_)
    · obtain ⟨ex, hA⟩ := hJ
      have hi' := lt_of_get hi
      walk_at "rd"
      refine ⟨small (by show 2 ≤ 1000000; decide), fun p2 hp2 => ?_⟩
      have exP := Evl.Ex.new (o := .tup [.int 0, .str (S [ch])]) hp2
      have gP : (upd H11 p2 (.tup [.int 0, .str (S [ch])])) p2 = some (.tup [.int 0, .str (S [ch])]) := upd_same
      generalize upd H11 p2 (.tup [.int 0, .str (S [ch])]) = H12 at exP gP ⊢
      have pD : p2 ≠ D := fun z => by rw [z, e11] at hp2; cases hp2
      have HLD : (upd H10 D (.lst [])) D ≠ none := fun z => by rw [upd_same] at z; cases z
      have hpL : (upd H10 D (.lst [])) p2 = none := by rw [upd_ne pD]; exact Grow.ex ex p2 hp2
      refine lc_end (by omega) hl11 (exP _ _ e11) ⟨(ex.trans exP).mut hDn, ?_⟩
      rw [take_snoc hi, List.map_append]
      exact ((hA.map fun v x h => h.ex (TAt.ex 0) (new_ex exP)).snoc (by omega) ⟨p2, rfl, new_get hpL gP⟩).map fun v x h => h.ex (TAt.ex 0) (new_put HLD)
    obtain ⟨ex, hA⟩ := hJ
    rw [List.take_of_length_le (Nat.le_refl _)] at hA
    walk_at "rd"
    refine ⟨small (by show 2 ≤ 1000000; decide), fun p2 hp2 => ?_⟩
    have exP := Evl.Ex.new (o := .tup [.ref D, .int 0]) hp2
    have gP : (upd H11 p2 (.tup [.ref D, .int 0])) p2 = some (.tup [.ref D, .int 0]) := upd_same
    generalize upd H11 p2 (.tup [.ref D, .int 0]) = H12 at exP gP ⊢
    walk_at "rd"
    refine ⟨small (by show 1 ≤ 1000000; decide), fun p3 hp3 => ?_⟩
    have exQ := Evl.Ex.new (o := .lst [.ref p2]) hp3
    have gQ : (upd H12 p3 (.lst [.ref p2])) p3 = some (.lst [.ref p2]) := upd_same
    generalize upd H12 p3 (.lst [.ref p2]) = H13 at exQ gQ ⊢
    have hat : TAt 1 H13 (.ref p3) (show Rt.T 1 from [(l.map it0, 0)]) := ⟨p3, _, rfl, gQ, All2.one ⟨p2, D, acc, rfl, exQ _ _ gP, exQ _ _ (exP _ _ e11), hA.map fun v x h => (h.ex (TAt.ex 0) new_sub).ex (TAt.ex 0) (exP.trans exQ)⟩⟩
    walk_at "rd"
    refine ⟨.ref p3, x7, rfl, at7 _ _ hat, ok7, cT_big (by decide) x7 ok7 len7, fun r H14 ex14 hr14 => ?_⟩
    walk_at "rd"
    exact ⟨p, r, _, _, rfl, ex14 _ _ (exQ _ _ (exP _ _ (ex _ _ hp))), hr14, q _⟩
end
end Fk

set_option Elab.async false
set_option linter.all false
set_option maxRecDepth 100000
set_option maxHeartbeats 4000000
namespace Fk
open PySem PySem.Spec PyProof.Rows L2 Fg Rt
section
variable {P : Program} {w : World} {K : PySem.W.Frag} {mg : Str → Option Value} {base : Heap}
theorem sc_init_BadText : FnScope ["self", "at"] ["self", "at"] (defScope (inClass (topS 3) 0)) := ⟨rfl, rfl, rfl, by decide +kernel, rfl, by decide +kernel, by decide +kernel⟩
theorem ok_init_BadText {C fI : Addr} {fd : FuncData} (o : OexC K C) (n : PySem.W.findIn K (.ref C) "at" = some none) (F : Fun K "__init__" "BadText.__init__" (inClass (topS 3) 0) fI fd) : FnOk P w K mg base L2.CX0 1 fI fd ["self", "at"] (spInit C "at") := by
  refine F.ok sc_init_BadText (fun vs H Q E h => ?_) (fun cdv A outer s H vs Q E hr h => ⟨_, pss_one (ps_ost (pv 0) (pv 1)), ?_⟩)
  · obtain ⟨_, _, rfl, _⟩ := h
    rfl
  · obtain ⟨a, v, rfl, ha, q⟩ := h
    exact r_ost rfl rfl o n ha q
theorem sc_init_TooLong : FnScope ["self", "number"] ["self", "number"] (defScope (inClass (topS 4) 0)) := ⟨rfl, rfl, rfl, by decide +kernel, rfl, by decide +kernel, by decide +kernel⟩
theorem ok_init_TooLong {C fI : Addr} {fd : FuncData} (o : OexC K C) (n : PySem.W.findIn K (.ref C) "number" = some none) (F : Fun K "__init__" "TooLong.__init__" (inClass (topS 4) 0) fI fd) : FnOk P w K mg base L2.CX0 1 fI fd ["self", "number"] (spInit C "number") := by
  refine F.ok sc_init_TooLong (fun vs H Q E h => ?_) (fun cdv A outer s H vs Q E hr h => ⟨_, pss_one (ps_ost (pv 0) (pv 1)), ?_⟩)
  · obtain ⟨_, _, rfl, _⟩ := h
    rfl
  · obtain ⟨a, v, rfl, ha, q⟩ := h
    exact r_ost rfl rfl o n ha q
theorem rel_lit {l : List Nat} {s : String} {t : Tok} (h : S l = Str.ofString s) : RelV (.str (S l)) (.str (Str.ofString s) t) := ⟨t, by rw [h]⟩
theorem long_do {R : Prop} {q1 q2 f1 f2 : Str} {st1 st2 : Stmt} {p1 p2 : List Str} {B L G : Addr} (X1 : ErrC K "BadText" q1 f1 st1 p1 B) (X2 : ErrC K "TooLong" q2 f2 st2 p2 L) (gG : mg "GlimError" = some (.ref G))
    (h1 : PySem.W.subIn K (.ref L) (.type "BaseException") = some true) (h2 : PySem.W.isClsIn K L = true) (h3 : PySem.W.typeIn K (.ref L) = some (.type "type")) (h4 : PySem.W.subIn K (.ref L) (.ref L) = some true)
    (k1 : PySem.W.kitOne K (.ref L) (.ref G) = some true) (k2 : PySem.W.kitOne K (.ref L) (.ref B) = some false) (k3 : PySem.W.kitOne K (.ref L) (.type "ValueError") = some true) (n : LongK K L B G → R) : R :=
  n ⟨exm_mk h1 h2 h3 h4, k1, k2, k3⟩
theorem law_all (T : Bi mg) (F_is_sign : Defd K mg "is_sign" s_is_sign ["thing"]) (F_kept : Defd K mg "kept" s_kept ["beats", "row"]) (F_char_at : Defd K mg "char_at" s_char_at ["text", "at"]) (F_end_of_run : Defd K mg "end_of_run" s_end_of_run ["text", "at"]) (F_together : Defd K mg "together" s_together ["beats", "row", "other_beats", "other"]) (F_size_of_run : Defd K mg "size_of_run" s_size_of_run ["text", "at", "end"]) (F_read_whole : Defd K mg "read_whole" s_read_whole ["text", "at", "beats"]) (F_read_item : Defd K mg "read_item" s_read_item ["text", "at", "deep"]) (F_read_part : Defd K mg "read_part" s_read_part ["text", "at", "deep"]) (F_read_parts : Defd K mg "read_parts" s_read_parts ["text", "at", "deep"]) (F_read_round : Defd K mg "read_round" s_read_round ["text"]) (F_mix : Defd K mg "_law_mix" s_l_mix ["_law_cell", "_law_turn"]) (F_draw : Defd K mg "_law_draw" s_l_draw ["_law_script"]) (F_pick : Defd K mg "_law_pick" s_l_pick ["_law_draw_here", "_law_many"]) (F_l_common : Defd K mg "_law_common" s_l_common ["_law_one", "_law_two"]) (F_l_item_count : Defd K mg "_law_item_count" s_l_item_count ["_law_item"]) (F_l_part_count : Defd K mg "_law_part_count" s_l_part_count ["_law_part"]) (F_l_count : Defd K mg "_law_count" s_l_count ["_law_parts"]) (F_l_part_sign : Defd K mg "_law_part_sign" s_l_part_sign ["_law_part", "_law_spot"]) (F_l_sign_at : Defd K mg "_law_sign_at" s_l_sign_at ["_law_parts", "_law_spot"]) (F_l_write_item : Defd K mg "_law_write_item" s_l_write_item ["_law_item"]) (F_l_write_part : Defd K mg "_law_write_part" s_l_write_part ["_law_part"]) (F_l_write : Defd K mg "_law_write" s_l_write ["_law_parts"]) (F_l_due : Defd K mg "_law_due" s_l_due ["_law_parts"]) (F_l_is_int : Defd K mg "_law_is_int" s_l_is_int ["_law_thing"]) (F_l_told : Defd K mg "_law_told" s_l_told ["_law_text_here"]) (F_l_agree : Defd K mg "_law_agree" s_l_agree ["_law_told_here", "_law_due_here"]) (F_l_sign : Defd K mg "_law_sign" s_l_sign ["_law_draw_here"]) (F_l_room_part : Defd K mg "_law_room_part" s_l_room_part ["_law_draw_here", "_law_room", "_law_depth", "_law_tally"]) (F_l_room_text : Defd K mg "_law_room_text" s_l_room_text ["_law_draw_here", "_law_room", "_law_depth", "_law_tally"]) (F_l_edge_text : Defd K mg "_law_edge_text" s_l_edge_text ["_law_draw_here"]) (F_l_deep_text : Defd K mg "_law_deep_text" s_l_deep_text ["_law_draw_here"]) (F_l_free_part : Defd K mg "_law_free_part" s_l_free_part ["_law_draw_here", "_law_depth", "_law_tally"]) (F_l_free_text : Defd K mg "_law_free_text" s_l_free_text ["_law_draw_here", "_law_depth", "_law_tally"]) (F_l_text : Defd K mg "_law_text" s_l_text ["_law_draw_here"]) {A_BadText A_TooLong A_GlimError : Addr} (E_BadText : Err P w K mg base "BadText" A_BadText "at") (E_TooLong : Err P w K mg base "TooLong" A_TooLong "number") (g_BadText : mg "BadText" = some (.ref A_BadText)) (g_TooLong : mg "TooLong" = some (.ref A_TooLong)) (g_GlimError : mg "GlimError" = some (.ref A_GlimError)) (LK : LongK K A_TooLong A_BadText A_GlimError)
    (c_SIGNS : ∃ u, mg "SIGNS" = some u ∧ RelV (.str (S SGL)) u) (c_DIGITS : ∃ u, mg "DIGITS" = some u ∧ RelV (.str (S DGL)) u) (c_DARK : ∃ u, mg "DARK" = some u ∧ RelV (.str (S [46])) u) (c_MOST_BEATS : ∃ u, mg "MOST_BEATS" = some u ∧ RelV (.int 24) u)
    (c_MOST_DEEP : ∃ u, mg "MOST_DEEP" = some u ∧ RelV (.int 6) u) (c_LEAST_TIMES : ∃ u, mg "LEAST_TIMES" = some u ∧ RelV (.int 2) u) (c_MOST_TIMES : ∃ u, mg "MOST_TIMES" = some u ∧ RelV (.int 24) u) (g_lcm : mg "lcm" = some (.builtin "math.lcm")) {f : Addr} {fd : FuncData} (F : Fun K "law" "law" s_law f fd) : FnOk P w K mg base L2.CX0 27 f fd ["_law_script"] (spLaw K) := by
  have gB : GlobC mg "BadText" A_BadText := ⟨g_BadText⟩
  have gG : GlobC mg "GlimError" A_GlimError := ⟨g_GlimError⟩
  have C_is_sign : Can P w K mg base L2.CX0 1 "is_sign" ["thing"] spIsSign := by
    apply can_is_sign T F_is_sign <;> assumption
  have C_kept : Can P w K mg base L2.CX0 1 "kept" ["beats", "row"] spKept := by
    apply can_kept T F_kept <;> assumption
  have C_char_at : Can P w K mg base L2.CX0 1 "char_at" ["text", "at"] spChar := by
    apply can_char_at T F_char_at <;> assumption
  have C_end_of_run : Can P w K mg base L2.CX0 1 "end_of_run" ["text", "at"] spEnd := by
    apply can_end_of_run T F_end_of_run <;> assumption
  have C_together : Can P w K mg base L2.CX0 1 "together" ["beats", "row", "other_beats", "other"] spTogether := by
    apply can_together T F_together <;> assumption
  have C_size_of_run : Can P w K mg base (L2.CX P w) 3 "size_of_run" ["text", "at", "end"] (spSize A_BadText) := by
    apply can_size_of_run T F_size_of_run <;> assumption
  have C_read_whole : Can P w K mg base (L2.CX P w) 4 "read_whole" ["text", "at", "beats"] (spWhole A_BadText) := by
    apply can_read_whole T F_read_whole <;> assumption
  have C_read_parts : Can P w K mg base (L2.CX P w) 24 "read_parts" ["text", "at", "deep"] (spParts A_BadText 6) := by
    refine can_reader T F_read_item F_read_part F_read_parts ?_ ?_ ?_ ?_ ?_ ?_ ?_ ?_ ?_ ?_ ?_ ?_ ?_ ?_ 6 (Nat.le_refl _) <;> assumption
  have C_read_round : Can P w K mg base (L2.CX P w) 25 "read_round" ["text"] (spReadRound K A_BadText A_TooLong) := by
    apply can_read_round T F_read_round <;> assumption
  have C_mix := can_mix (P := P) (w := w) (base := base) T F_mix
  have C_l_draw := can_draw (P := P) (w := w) (base := base) T F_draw
  have C_l_pick := can_pick (P := P) (w := w) (base := base) T F_pick C_mix
  have C_l_common := can_l_common (P := P) (w := w) (base := base) T F_l_common
  have CC := can_counter (P := P) (w := w) (base := base) T F_l_item_count F_l_part_count F_l_count C_l_common
  have C_l_sign_at := can_signer T F_l_part_sign F_l_sign_at (fun n => (CC n).2.1) (fun n => (CC n).2.2) 7
  have C_l_write := can_writer (P := P) (w := w) (base := base) T F_l_write_item F_l_write_part F_l_write 7
  have C_l_due := can_l_due (n := 7) (k := 23) T F_l_due (by decide) (by decide) (CC 7).1 C_l_sign_at
  have C_l_is_int := can_l_is_int (P := P) (w := w) (base := base) T F_l_is_int
  have C_l_told := can_l_told (n := 7) T F_l_told E_TooLong g_TooLong gB gG LK C_read_round
  have C_l_agree := can_l_agree T F_l_agree C_l_is_int
  have C_l_sign := can_l_sign T F_l_sign C_l_pick
  have RM := can_rooms T F_l_room_part F_l_room_text C_l_pick C_l_sign (fun n => ⟨(CC n).1, (CC n).2.1⟩)
  have C_edge := can_l_edge_text (k := 19) (j := 14) T F_l_edge_text (by decide) (by decide) C_l_pick C_l_sign (CC 4).2.1 (RM 4 (by decide)).2
  have C_deep := can_l_deep_text (k := 12) T F_l_deep_text (by decide) C_l_pick C_l_sign (RM 1 (by decide)).1
  have C_free := can_frees T F_l_free_part F_l_free_text C_l_pick C_l_sign (fun n => (CC n).2.1) 7 (by decide)
  have C_l_text := can_l_text T F_l_text C_l_pick (RM 5 (by decide)).1 C_edge C_free C_deep
  exact ok_law T F C_l_draw C_l_text C_l_agree C_l_told C_l_write C_l_due C_l_pick C_l_sign
end
end Fk

set_option Elab.async false
set_option linter.all false
set_option maxRecDepth 100000
open PySem PySem.W PyProof.Rows
set_option maxHeartbeats 8000000 in
theorem PySem.Challenge.cw_falseglim_k04_rhythm_texts_holds : PySem.Challenge.rw_falseglim_k04_rhythm_texts.Holds := by
  w_on; o_law; k_head; (case hw => w_witness2)
  k_fill
  refine L2.walk_of (l := PySem.Challenge.rw_falseglim_k04_rhythm_texts) (n := 63) (k := 27) (x := "_law_script") (CX := fun _ => L2.CX0) (sp := fun w => Fk.spLaw _) rfl (by decide) rfl ⟨rfl, by decide, by decide⟩ (fun w h Y => PySem.W.kIn_of Y) ?F (fun _ _ a ns hl _ hS => ⟨a, ns, rfl, hS, hl, fun _ => rfl⟩) (fun _ _ _ _ _ h => h)
  case F =>
    intro w mg fa h KX G hmg
    refine' Fg.bi_do KX G ?z0 ?z1 ?z2 ?z3 ?z4 ?z5 ?z6 ?z7 ?z8 ?z9 ?z10 ?z11 ?z12 ?z13 ?z14 ?z15 ?z16 ?z17 ?_
    (case z0 => k_is); (case z1 => k_is); (case z2 => k_is); (case z3 => k_is); (case z4 => k_is); (case z5 => k_is); (case z6 => k_is); (case z7 => k_is); (case z8 => k_is); (case z9 => k_is); (case z10 => k_is); (case z11 => k_is); (case z12 => k_is); (case z13 => k_is); (case z14 => k_is); (case z15 => k_is); (case z16 => k_is); (case z17 => k_is)
    intro T
    refine' Fg.defd_do KX G "is_sign" Fk.s_is_sign ["thing"] ?ais_sign ?lis_sign ?cis_sign ?kis_sign (fun _ _ _ _ _ _ us hl => match us, hl with | [_], _ => rfl) ?_
    (case ais_sign => k_is); (case lis_sign => k_is); (case cis_sign => k_is); (case kis_sign => k_is)
    intro F_is_sign
    refine' Fg.defd_do KX G "kept" Fk.s_kept ["beats", "row"] ?akept ?lkept ?ckept ?kkept (fun _ _ _ _ _ _ us hl => match us, hl with | [_, _], _ => rfl) ?_
    (case akept => k_is); (case lkept => k_is); (case ckept => k_is); (case kkept => k_is)
    intro F_kept
    refine' Fg.defd_do KX G "char_at" Fk.s_char_at ["text", "at"] ?achar_at ?lchar_at ?cchar_at ?kchar_at (fun _ _ _ _ _ _ us hl => match us, hl with | [_, _], _ => rfl) ?_
    (case achar_at => k_is); (case lchar_at => k_is); (case cchar_at => k_is); (case kchar_at => k_is)
    intro F_char_at
    refine' Fg.defd_do KX G "end_of_run" Fk.s_end_of_run ["text", "at"] ?aend_of_run ?lend_of_run ?cend_of_run ?kend_of_run (fun _ _ _ _ _ _ us hl => match us, hl with | [_, _], _ => rfl) ?_
    (case aend_of_run => k_is); (case lend_of_run => k_is); (case cend_of_run => k_is); (case kend_of_run => k_is)
    intro F_end_of_run
    refine' Fg.defd_do KX G "together" Fk.s_together ["beats", "row", "other_beats", "other"] ?atogether ?ltogether ?ctogether ?ktogether (fun _ _ _ _ _ _ us hl => match us, hl with | [_, _, _, _], _ => rfl) ?_
    (case atogether => k_is); (case ltogether => k_is); (case ctogether => k_is); (case ktogether => k_is)
    intro F_together
    refine' Fg.defd_do KX G "size_of_run" Fk.s_size_of_run ["text", "at", "end"] ?asize_of_run ?lsize_of_run ?csize_of_run ?ksize_of_run (fun _ _ _ _ _ _ us hl => match us, hl with | [_, _, _], _ => rfl) ?_
    (case asize_of_run => k_is); (case lsize_of_run => k_is); (case csize_of_run => k_is); (case ksize_of_run => k_is)
    intro F_size_of_run
    refine' Fg.defd_do KX G "read_whole" Fk.s_read_whole ["text", "at", "beats"] ?aread_whole ?lread_whole ?cread_whole ?kread_whole (fun _ _ _ _ _ _ us hl => match us, hl with | [_, _, _], _ => rfl) ?_
    (case aread_whole => k_is); (case lread_whole => k_is); (case cread_whole => k_is); (case kread_whole => k_is)
    intro F_read_whole
    refine' Fg.defd_do KX G "read_item" Fk.s_read_item ["text", "at", "deep"] ?aread_item ?lread_item ?cread_item ?kread_item (fun _ _ _ _ _ _ us hl => match us, hl with | [_, _, _], _ => rfl) ?_
    (case aread_item => k_is); (case lread_item => k_is); (case cread_item => k_is); (case kread_item => k_is)
    intro F_read_item
    refine' Fg.defd_do KX G "read_part" Fk.s_read_part ["text", "at", "deep"] ?aread_part ?lread_part ?cread_part ?kread_part (fun _ _ _ _ _ _ us hl => match us, hl with | [_, _, _], _ => rfl) ?_
    (case aread_part => k_is); (case lread_part => k_is); (case cread_part => k_is); (case kread_part => k_is)
    intro F_read_part
    refine' Fg.defd_do KX G "read_parts" Fk.s_read_parts ["text", "at", "deep"] ?aread_parts ?lread_parts ?cread_parts ?kread_parts (fun _ _ _ _ _ _ us hl => match us, hl with | [_, _, _], _ => rfl) ?_
    (case aread_parts => k_is); (case lread_parts => k_is); (case cread_parts => k_is); (case kread_parts => k_is)
    intro F_read_parts
    refine' Fg.defd_do KX G "read_round" Fk.s_read_round ["text"] ?aread_round ?lread_round ?cread_round ?kread_round (fun _ _ _ _ _ _ us hl => match us, hl with | [_], _ => rfl) ?_
    (case aread_round => k_is); (case lread_round => k_is); (case cread_round => k_is); (case kread_round => k_is)
    intro F_read_round
    refine' Fg.defd_do KX G "_law_mix" Fk.s_l_mix ["_law_cell", "_law_turn"] ?amix ?lmix ?cmix ?kmix (fun _ _ _ _ _ _ us hl => match us, hl with | [_, _], _ => rfl) ?_
    (case amix => k_is); (case lmix => k_is); (case cmix => k_is); (case kmix => k_is)
    intro F_mix
    refine' Fg.defd_do KX G "_law_draw" Fk.s_l_draw ["_law_script"] ?adraw ?ldraw ?cdraw ?kdraw (fun _ _ _ _ _ _ us hl => match us, hl with | [_], _ => rfl) ?_
    (case adraw => k_is); (case ldraw => k_is); (case cdraw => k_is); (case kdraw => k_is)
    intro F_draw
    refine' Fg.defd_do KX G "_law_pick" Fk.s_l_pick ["_law_draw_here", "_law_many"] ?apick ?lpick ?cpick ?kpick (fun _ _ _ _ _ _ us hl => match us, hl with | [_, _], _ => rfl) ?_
    (case apick => k_is); (case lpick => k_is); (case cpick => k_is); (case kpick => k_is)
    intro F_pick
    refine' Fg.defd_do KX G "_law_common" Fk.s_l_common ["_law_one", "_law_two"] ?al_common ?ll_common ?cl_common ?kl_common (fun _ _ _ _ _ _ us hl => match us, hl with | [_, _], _ => rfl) ?_
    (case al_common => k_is); (case ll_common => k_is); (case cl_common => k_is); (case kl_common => k_is)
    intro F_l_common
    refine' Fg.defd_do KX G "_law_item_count" Fk.s_l_item_count ["_law_item"] ?al_item_count ?ll_item_count ?cl_item_count ?kl_item_count (fun _ _ _ _ _ _ us hl => match us, hl with | [_], _ => rfl) ?_
    (case al_item_count => k_is); (case ll_item_count => k_is); (case cl_item_count => k_is); (case kl_item_count => k_is)
    intro F_l_item_count
    refine' Fg.defd_do KX G "_law_part_count" Fk.s_l_part_count ["_law_part"] ?al_part_count ?ll_part_count ?cl_part_count ?kl_part_count (fun _ _ _ _ _ _ us hl => match us, hl with | [_], _ => rfl) ?_
    (case al_part_count => k_is); (case ll_part_count => k_is); (case cl_part_count => k_is); (case kl_part_count => k_is)
    intro F_l_part_count
    refine' Fg.defd_do KX G "_law_count" Fk.s_l_count ["_law_parts"] ?al_count ?ll_count ?cl_count ?kl_count (fun _ _ _ _ _ _ us hl => match us, hl with | [_], _ => rfl) ?_
    (case al_count => k_is); (case ll_count => k_is); (case cl_count => k_is); (case kl_count => k_is)
    intro F_l_count
    refine' Fg.defd_do KX G "_law_part_sign" Fk.s_l_part_sign ["_law_part", "_law_spot"] ?al_part_sign ?ll_part_sign ?cl_part_sign ?kl_part_sign (fun _ _ _ _ _ _ us hl => match us, hl with | [_, _], _ => rfl) ?_
    (case al_part_sign => k_is); (case ll_part_sign => k_is); (case cl_part_sign => k_is); (case kl_part_sign => k_is)
    intro F_l_part_sign
    refine' Fg.defd_do KX G "_law_sign_at" Fk.s_l_sign_at ["_law_parts", "_law_spot"] ?al_sign_at ?ll_sign_at ?cl_sign_at ?kl_sign_at (fun _ _ _ _ _ _ us hl => match us, hl with | [_, _], _ => rfl) ?_
    (case al_sign_at => k_is); (case ll_sign_at => k_is); (case cl_sign_at => k_is); (case kl_sign_at => k_is)
    intro F_l_sign_at
    refine' Fg.defd_do KX G "_law_write_item" Fk.s_l_write_item ["_law_item"] ?al_write_item ?ll_write_item ?cl_write_item ?kl_write_item (fun _ _ _ _ _ _ us hl => match us, hl with | [_], _ => rfl) ?_
    (case al_write_item => k_is); (case ll_write_item => k_is); (case cl_write_item => k_is); (case kl_write_item => k_is)
    intro F_l_write_item
    refine' Fg.defd_do KX G "_law_write_part" Fk.s_l_write_part ["_law_part"] ?al_write_part ?ll_write_part ?cl_write_part ?kl_write_part (fun _ _ _ _ _ _ us hl => match us, hl with | [_], _ => rfl) ?_
    (case al_write_part => k_is); (case ll_write_part => k_is); (case cl_write_part => k_is); (case kl_write_part => k_is)
    intro F_l_write_part
    refine' Fg.defd_do KX G "_law_write" Fk.s_l_write ["_law_parts"] ?al_write ?ll_write ?cl_write ?kl_write (fun _ _ _ _ _ _ us hl => match us, hl with | [_], _ => rfl) ?_
    (case al_write => k_is); (case ll_write => k_is); (case cl_write => k_is); (case kl_write => k_is)
    intro F_l_write
    refine' Fg.defd_do KX G "_law_due" Fk.s_l_due ["_law_parts"] ?al_due ?ll_due ?cl_due ?kl_due (fun _ _ _ _ _ _ us hl => match us, hl with | [_], _ => rfl) ?_
    (case al_due => k_is); (case ll_due => k_is); (case cl_due => k_is); (case kl_due => k_is)
    intro F_l_due
    refine' Fg.defd_do KX G "_law_is_int" Fk.s_l_is_int ["_law_thing"] ?al_is_int ?ll_is_int ?cl_is_int ?kl_is_int (fun _ _ _ _ _ _ us hl => match us, hl with | [_], _ => rfl) ?_
    (case al_is_int => k_is); (case ll_is_int => k_is); (case cl_is_int => k_is); (case kl_is_int => k_is)
    intro F_l_is_int
    refine' Fg.defd_do KX G "_law_told" Fk.s_l_told ["_law_text_here"] ?al_told ?ll_told ?cl_told ?kl_told (fun _ _ _ _ _ _ us hl => match us, hl with | [_], _ => rfl) ?_
    (case al_told => k_is); (case ll_told => k_is); (case cl_told => k_is); (case kl_told => k_is)
    intro F_l_told
    refine' Fg.defd_do KX G "_law_agree" Fk.s_l_agree ["_law_told_here", "_law_due_here"] ?al_agree ?ll_agree ?cl_agree ?kl_agree (fun _ _ _ _ _ _ us hl => match us, hl with | [_, _], _ => rfl) ?_
    (case al_agree => k_is); (case ll_agree => k_is); (case cl_agree => k_is); (case kl_agree => k_is)
    intro F_l_agree
    refine' Fg.defd_do KX G "_law_sign" Fk.s_l_sign ["_law_draw_here"] ?al_sign ?ll_sign ?cl_sign ?kl_sign (fun _ _ _ _ _ _ us hl => match us, hl with | [_], _ => rfl) ?_
    (case al_sign => k_is); (case ll_sign => k_is); (case cl_sign => k_is); (case kl_sign => k_is)
    intro F_l_sign
    refine' Fg.defd_do KX G "_law_room_part" Fk.s_l_room_part ["_law_draw_here", "_law_room", "_law_depth", "_law_tally"] ?al_room_part ?ll_room_part ?cl_room_part ?kl_room_part (fun _ _ _ _ _ _ us hl => match us, hl with | [_, _, _, _], _ => rfl) ?_
    (case al_room_part => k_is); (case ll_room_part => k_is); (case cl_room_part => k_is); (case kl_room_part => k_is)
    intro F_l_room_part
    refine' Fg.defd_do KX G "_law_room_text" Fk.s_l_room_text ["_law_draw_here", "_law_room", "_law_depth", "_law_tally"] ?al_room_text ?ll_room_text ?cl_room_text ?kl_room_text (fun _ _ _ _ _ _ us hl => match us, hl with | [_, _, _, _], _ => rfl) ?_
    (case al_room_text => k_is); (case ll_room_text => k_is); (case cl_room_text => k_is); (case kl_room_text => k_is)
    intro F_l_room_text
    refine' Fg.defd_do KX G "_law_edge_text" Fk.s_l_edge_text ["_law_draw_here"] ?al_edge_text ?ll_edge_text ?cl_edge_text ?kl_edge_text (fun _ _ _ _ _ _ us hl => match us, hl with | [_], _ => rfl) ?_
    (case al_edge_text => k_is); (case ll_edge_text => k_is); (case cl_edge_text => k_is); (case kl_edge_text => k_is)
    intro F_l_edge_text
    refine' Fg.defd_do KX G "_law_deep_text" Fk.s_l_deep_text ["_law_draw_here"] ?al_deep_text ?ll_deep_text ?cl_deep_text ?kl_deep_text (fun _ _ _ _ _ _ us hl => match us, hl with | [_], _ => rfl) ?_
    (case al_deep_text => k_is); (case ll_deep_text => k_is); (case cl_deep_text => k_is); (case kl_deep_text => k_is)
    intro F_l_deep_text
    refine' Fg.defd_do KX G "_law_free_part" Fk.s_l_free_part ["_law_draw_here", "_law_depth", "_law_tally"] ?al_free_part ?ll_free_part ?cl_free_part ?kl_free_part (fun _ _ _ _ _ _ us hl => match us, hl with | [_, _, _], _ => rfl) ?_
    (case al_free_part => k_is); (case ll_free_part => k_is); (case cl_free_part => k_is); (case kl_free_part => k_is)
    intro F_l_free_part
    refine' Fg.defd_do KX G "_law_free_text" Fk.s_l_free_text ["_law_draw_here", "_law_depth", "_law_tally"] ?al_free_text ?ll_free_text ?cl_free_text ?kl_free_text (fun _ _ _ _ _ _ us hl => match us, hl with | [_, _, _], _ => rfl) ?_
    (case al_free_text => k_is); (case ll_free_text => k_is); (case cl_free_text => k_is); (case kl_free_text => k_is)
    intro F_l_free_text
    refine' Fg.defd_do KX G "_law_text" Fk.s_l_text ["_law_draw_here"] ?al_text ?ll_text ?cl_text ?kl_text (fun _ _ _ _ _ _ us hl => match us, hl with | [_], _ => rfl) ?_
    (case al_text => k_is); (case ll_text => k_is); (case cl_text => k_is); (case kl_text => k_is)
    intro F_l_text
    refine' Fg.lawd_do KX G "law" Fk.s_law "_law_script" ?alaw ?llaw ?claw ?klaw (fun _ _ _ _ _ _ us hl => match us, hl with | [_], _ => rfl) ?_
    (case alaw => k_is); (case llaw => k_is); (case claw => k_is); (case klaw => k_is)
    intro fl fdl bl Fl gl
    refine' Fg.errc_do KX "BadText" "BadText.__init__" "at" (L2.inClass (Fk.topS 3) 0) ["self", "at"] ?a1BadText ?a2BadText ?a4BadText ?a5BadText ?a6BadText ?a7BadText ?a8BadText ?a9BadText ?b1BadText ?b2BadText ?b3BadText ?b4BadText ?b5BadText ?b6BadText ?b7BadText ?b8BadText ?b9BadText ?c1BadText ?c2BadText (fun _ _ _ _ _ _ us hl => match us, hl with | [_, _], _ => rfl) ?a3BadText ?_
    (case a1BadText => k_is); (case a2BadText => k_is); (case a4BadText => k_is); (case a5BadText => k_is); (case a6BadText => k_is); (case a7BadText => k_is); (case a8BadText => k_is); (case a9BadText => k_is); (case b1BadText => k_is); (case b2BadText => k_is); (case b3BadText => k_is); (case b4BadText => k_is); (case b5BadText => k_is); (case b6BadText => k_is); (case b7BadText => k_is); (case b8BadText => k_is); (case b9BadText => k_is); (case c1BadText => k_is); (case c2BadText => k_is); (case a3BadText => decide +kernel)
    intro X_BadText
    refine' Fg.errc_do KX "TooLong" "TooLong.__init__" "number" (L2.inClass (Fk.topS 4) 0) ["self", "number"] ?a1TooLong ?a2TooLong ?a4TooLong ?a5TooLong ?a6TooLong ?a7TooLong ?a8TooLong ?a9TooLong ?b1TooLong ?b2TooLong ?b3TooLong ?b4TooLong ?b5TooLong ?b6TooLong ?b7TooLong ?b8TooLong ?b9TooLong ?c1TooLong ?c2TooLong (fun _ _ _ _ _ _ us hl => match us, hl with | [_, _], _ => rfl) ?a3TooLong ?_
    (case a1TooLong => k_is); (case a2TooLong => k_is); (case a4TooLong => k_is); (case a5TooLong => k_is); (case a6TooLong => k_is); (case a7TooLong => k_is); (case a8TooLong => k_is); (case a9TooLong => k_is); (case b1TooLong => k_is); (case b2TooLong => k_is); (case b3TooLong => k_is); (case b4TooLong => k_is); (case b5TooLong => k_is); (case b6TooLong => k_is); (case b7TooLong => k_is); (case b8TooLong => k_is); (case b9TooLong => k_is); (case c1TooLong => k_is); (case c2TooLong => k_is); (case a3TooLong => decide +kernel)
    intro X_TooLong
    refine' Fg.glob_do KX G "GlimError" ?agGlimError ?_
    (case agGlimError => k_is)
    intro g_GlimError
    refine' Fg.glob_do KX G "BadText" ?agBadText ?_
    (case agBadText => k_is)
    intro g_BadText
    refine' Fg.glob_do KX G "TooLong" ?agTooLong ?_
    (case agTooLong => k_is)
    intro g_TooLong
    refine' Fg.glob_do KX G "SIGNS" ?agSIGNS ?_
    (case agSIGNS => k_is)
    intro g_SIGNS
    refine' Fg.glob_do KX G "DIGITS" ?agDIGITS ?_
    (case agDIGITS => k_is)
    intro g_DIGITS
    refine' Fg.glob_do KX G "DARK" ?agDARK ?_
    (case agDARK => k_is)
    intro g_DARK
    refine' Fg.glob_do KX G "MOST_BEATS" ?agMOST_BEATS ?_
    (case agMOST_BEATS => k_is)
    intro g_MOST_BEATS
    refine' Fg.glob_do KX G "MOST_DEEP" ?agMOST_DEEP ?_
    (case agMOST_DEEP => k_is)
    intro g_MOST_DEEP
    refine' Fg.glob_do KX G "LEAST_TIMES" ?agLEAST_TIMES ?_
    (case agLEAST_TIMES => k_is)
    intro g_LEAST_TIMES
    refine' Fg.glob_do KX G "MOST_TIMES" ?agMOST_TIMES ?_
    (case agMOST_TIMES => k_is)
    intro g_MOST_TIMES
    refine' Fg.glob_do KX G "lcm" ?aglcm ?_
    (case aglcm => k_is)
    intro g_lcm
    refine' Fk.long_do X_BadText X_TooLong g_GlimError ?th1 ?th2 ?th3 ?th4 ?tk1 ?tk2 ?tk3 ?_
    (case th1 => k_is); (case th2 => k_is); (case th3 => k_is); (case th4 => k_is); (case tk1 => kit_is); (case tk2 => kit_is); (case tk3 => kit_is)
    intro LK
    have el := hmg.symm.trans gl
    cases el
    refine ⟨fdl, bl, fun base _ _ => ?_⟩
    exact Fk.law_all T F_is_sign F_kept F_char_at F_end_of_run F_together F_size_of_run F_read_whole F_read_item F_read_part F_read_parts F_read_round F_mix F_draw F_pick F_l_common F_l_item_count F_l_part_count F_l_count F_l_part_sign F_l_sign_at F_l_write_item F_l_write_part F_l_write F_l_due F_l_is_int F_l_told F_l_agree F_l_sign F_l_room_part F_l_room_text F_l_edge_text F_l_deep_text F_l_free_part F_l_free_text F_l_text (Fg.err_mk KX G X_BadText fun fI fd F => Fk.ok_init_BadText X_BadText.o X_BadText.noN F) (Fg.err_mk KX G X_TooLong fun fI fd F => Fk.ok_init_TooLong X_TooLong.o X_TooLong.noN F) g_BadText g_TooLong g_GlimError LK ⟨_, g_SIGNS, Fk.rel_lit (by decide +kernel)⟩ ⟨_, g_DIGITS, Fk.rel_lit (by decide +kernel)⟩ ⟨_, g_DARK, Fk.rel_lit (by decide +kernel)⟩ ⟨_, g_MOST_BEATS, _, rfl⟩ ⟨_, g_MOST_DEEP, _, rfl⟩ ⟨_, g_LEAST_TIMES, _, rfl⟩ ⟨_, g_MOST_TIMES, _, rfl⟩ g_lcm Fl
