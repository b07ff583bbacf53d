import PyProof.Rows.All
import Wide.All
import OpenK.AllK
import Wide.FinOn
import PyProof.EqLayable
import PyProof.P3Eq
import HandS.ForMost
import HandS.IsInst
import HandS.TupAny
import HandS.Wide
import HandS.Codes
import HandS.Text
import HandS.Style
import HandS.SortKw
import HandS.More
import HandS.Star
import HandS.Walk
import HandS.Iter
import KE.DatumOrd
import HandS.Zip
import HandS.DictComp
import HandS.Finally
import KE.KDictZip
import HandS.CallLocal
import HandS.DeepEq
import PySem.Challenge.RW_lazywebs_k11_faults_in_their_order
set_option Elab.async false
set_option linter.all false
set_option maxRecDepth 100000
set_option maxHeartbeats 4000000
/-! Parts, and what a drawing makes of them: plain Lean. -/
namespace Lz
open PySem

/-! ### data without lists stays what it is -/
mutual
def fz : PyData → Bool
  | .none => true
  | .bool _ => true
  | .int _ => true
  | .str _ => true
  | .tuple xs => fzAll xs
  | .list _ => false
  | .dict _ => false
def fzAll : List PyData → Bool
  | [] => true
  | x :: xs => fz x && fzAll xs
end
theorem fzAll_iff : ∀ {ds : List PyData}, fzAll ds = true ↔ ∀ d, d ∈ ds → fz d = true
  | [] => ⟨fun _ _ h => (nomatch h), fun _ => rfl⟩
  | x :: xs => by
    show (fz x && fzAll xs) = true ↔ _
    rw [Bool.and_eq_true, fzAll_iff]
    refine ⟨fun h d m => ?_, fun h => ⟨h x List.mem_cons_self, fun d m => h d (List.mem_cons_of_mem _ m)⟩⟩
    rcases List.mem_cons.mp m with e | m
    · rw [e]; exact h.1
    · exact h.2 d m
theorem layAll_iff : ∀ {ds : List PyData}, PyData.canLayAll0 ds = true ↔ ∀ d, d ∈ ds → d.canLay0 = true
  | [] => ⟨fun _ _ h => (nomatch h), fun _ => by simp only [PyData.canLayAll0]⟩
  | x :: xs => by
    have e : PyData.canLayAll0 (x :: xs) = (x.canLay0 && PyData.canLayAll0 xs) := by rw [PyData.canLayAll0]
    rw [e, Bool.and_eq_true, layAll_iff]
    refine ⟨fun h d m => ?_, fun h => ⟨h x List.mem_cons_self, fun d m => h d (List.mem_cons_of_mem _ m)⟩⟩
    rcases List.mem_cons.mp m with e | m
    · rw [e]; exact h.1
    · exact h.2 d m
theorem depthAll_le : ∀ {ds : List PyData} {n : Nat}, (∀ d, d ∈ ds → d.depth ≤ n) → PyData.depthAll ds ≤ n
  | [], n, _ => by simp only [PyData.depthAll, Nat.zero_le]
  | x :: xs, n, h => by
    have h1 := h x List.mem_cons_self
    have h2 := depthAll_le (ds := xs) (n := n) fun d m => h d (List.mem_cons_of_mem _ m)
    simp only [PyData.depthAll]
    omega
theorem depth_mem : ∀ {ds : List PyData} {d : PyData}, d ∈ ds → d.depth ≤ PyData.depthAll ds
  | x :: xs, d, h => by
    have e : PyData.depthAll (x :: xs) = max x.depth (PyData.depthAll xs) := by simp only [PyData.depthAll]
    rw [e]
    rcases List.mem_cons.mp h with e | m
    · subst e
      omega
    · have := depth_mem m
      omega
inductive P where
  | num (i : Int)
  | nam (x : Str)
  | fn (x : Str)
  | op (k : Str) (as : List P)
  | lt (nm : List Str) (as : List P) (b : P)

def kinds : List (Str × Nat) := [("give", 2), ("plus", 2), ("less", 2), ("times", 2), ("below", 2), ("when", 3), ("pair", 2), ("left", 1), ("right", 1)]
def nmOk (x : Str) : Prop := 1 ≤ x.length ∧ x.length ≤ 8 ∧ ∀ c, c ∈ x.cps.toList → 97 ≤ c ∧ c ≤ 122
theorem nmOk.strOk {x : Str} (h : nmOk x) : PyData.strOk x = true := by
  unfold PyData.strOk
  rw [Array.all_eq_true_iff_forall_mem]
  intro c hc
  have := h.2.2 c (by simpa using hc)
  exact decide_eq_true (by omega)

def rowD (x : Str) (d : PyData) : PyData := .tuple [.str x, d]
mutual
def P.data : P → PyData
  | .num i => .tuple [.str "number", .int i]
  | .nam x => .tuple [.str "name", .str x]
  | .fn x => .tuple [.str "fun", .str x]
  | .op k as => .tuple (.str k :: P.datas as)
  | .lt nm as b => .tuple [.str "let", .tuple (List.zipWith rowD nm (P.datas as)), P.data b]
def P.datas : List P → List PyData
  | [] => []
  | a :: as => P.data a :: P.datas as
end
theorem datas_map : ∀ as : List P, P.datas as = as.map P.data
  | [] => rfl
  | a :: as => by
    show P.data a :: P.datas as = P.data a :: as.map P.data
    rw [datas_map as]
theorem datas_len (as : List P) : (P.datas as).length = as.length := by rw [datas_map, List.length_map]

mutual
def P.many : P → Nat
  | .op _ as => 1 + P.manys as
  | .lt _ as b => 1 + (P.manys as + P.many b)
  | _ => 1
def P.manys : List P → Nat
  | [] => 0
  | a :: as => P.many a + P.manys as
end
mutual
def P.deep : P → Nat
  | .op _ as => 1 + P.deeps as
  | .lt _ as b => 1 + max (P.deeps as) (P.deep b)
  | _ => 1
def P.deeps : List P → Nat
  | [] => 0
  | a :: as => max (P.deep a) (P.deeps as)
end
mutual
/-- it is a part: kinds, names -/
def P.ok : P → Prop
  | .num _ => True
  | .nam x => nmOk x
  | .fn x => nmOk x
  | .op k as => (k, as.length) ∈ kinds ∧ P.oks as
  | .lt nm as b => nm.length = as.length ∧ (∀ x, x ∈ nm → nmOk x) ∧ P.oks as ∧ P.ok b
def P.oks : List P → Prop
  | [] => True
  | a :: as => P.ok a ∧ P.oks as
end
def P.inn : P → List P
  | .op _ as => as
  | .lt _ as b => as ++ [b]
  | _ => []

theorem oks_iff : ∀ {as : List P}, P.oks as ↔ ∀ a, a ∈ as → a.ok
  | [] => ⟨fun _ _ h => (nomatch h), fun _ => True.intro⟩
  | x :: xs => by
    show (P.ok x ∧ P.oks xs) ↔ _
    rw [oks_iff]
    refine ⟨fun h d m => ?_, fun h => ⟨h x List.mem_cons_self, fun d m => h d (List.mem_cons_of_mem _ m)⟩⟩
    rcases List.mem_cons.mp m with e | m
    · rw [e]; exact h.1
    · exact h.2 d m
theorem manys_append : ∀ as bs : List P, P.manys (as ++ bs) = P.manys as + P.manys bs
  | [], bs => by
    show P.manys bs = 0 + P.manys bs
    omega
  | a :: as, bs => by
    show P.many a + P.manys (as ++ bs) = P.many a + P.manys as + P.manys bs
    rw [manys_append as bs]
    omega
theorem deeps_append : ∀ as bs : List P, P.deeps (as ++ bs) = max (P.deeps as) (P.deeps bs)
  | [], bs => by
    show P.deeps bs = max 0 (P.deeps bs)
    omega
  | a :: as, bs => by
    show max (P.deep a) (P.deeps (as ++ bs)) = max (max (P.deep a) (P.deeps as)) (P.deeps bs)
    rw [deeps_append as bs]
    omega
theorem deeps_mem : ∀ {as : List P} {a : P}, a ∈ as → a.deep ≤ P.deeps as
  | x :: xs, a, h => by
    show a.deep ≤ max x.deep (P.deeps xs)
    rcases List.mem_cons.mp h with e | m
    · subst e
      omega
    · have := deeps_mem m
      omega
theorem deeps_le : ∀ {as : List P} {n : Nat}, (∀ a, a ∈ as → a.deep ≤ n) → P.deeps as ≤ n
  | [], n, _ => Nat.zero_le _
  | x :: xs, n, h => by
    show max x.deep (P.deeps xs) ≤ n
    have h1 := h x List.mem_cons_self
    have h2 := deeps_le (as := xs) (n := n) fun d m => h d (List.mem_cons_of_mem _ m)
    omega
theorem manys_map : ∀ as : List P, P.manys as = (as.map P.many).sum
  | [] => rfl
  | a :: as => by
    show P.many a + P.manys as = _
    rw [manys_map as, List.map_cons, List.sum_cons]
theorem many_inn : ∀ t : P, t.many = 1 + P.manys t.inn
  | .num _ => rfl
  | .nam _ => rfl
  | .fn _ => rfl
  | .op _ _ => rfl
  | .lt nm as b => by
    show 1 + (P.manys as + P.many b) = 1 + P.manys (as ++ [b])
    rw [manys_append]
    rfl
theorem deep_inn : ∀ t : P, t.deep = 1 + P.deeps t.inn
  | .num _ => rfl
  | .nam _ => rfl
  | .fn _ => rfl
  | .op _ _ => rfl
  | .lt nm as b => by
    show 1 + max (P.deeps as) (P.deep b) = 1 + P.deeps (as ++ [b])
    rw [deeps_append]
    show 1 + max (P.deeps as) (P.deep b) = 1 + max (P.deeps as) (max (P.deep b) 0)
    omega
theorem inn_ok : ∀ {t : P}, t.ok → ∀ a, a ∈ t.inn → a.ok
  | .num _, _, _, m => nomatch m
  | .nam _, _, _, m => nomatch m
  | .fn _, _, _, m => nomatch m
  | .op _ as, h, a, m => oks_iff.mp h.2 a m
  | .lt nm as b, h, a, m => by
    rcases List.mem_append.mp (show a ∈ as ++ [b] from m) with m | m
    · exact oks_iff.mp h.2.2.1 a m
    · rw [List.mem_singleton.mp m]
      exact h.2.2.2
theorem many_pos (t : P) : 1 ≤ t.many := by
  rw [many_inn]
  omega
theorem deep_pos (t : P) : 1 ≤ t.deep := by
  rw [deep_inn]
  omega
theorem inn_deep {t a : P} (m : a ∈ t.inn) : a.deep + 1 ≤ t.deep := by
  have := deeps_mem m
  rw [deep_inn t]
  omega
theorem len_manys : ∀ as : List P, as.length ≤ P.manys as
  | [] => Nat.le_refl _
  | a :: as => by
    show as.length + 1 ≤ P.many a + P.manys as
    have h1 := len_manys as
    have h2 := many_pos a
    omega

/-! ### as data: no list, no strange sign, not too deep -/
theorem zip_mem : ∀ {nm : List Str} {ds : List PyData} {d : PyData}, d ∈ List.zipWith rowD nm ds → ∃ x e, x ∈ nm ∧ e ∈ ds ∧ d = rowD x e
  | [], _, _, h => by simp at h
  | _ :: _, [], _, h => by simp at h
  | x :: nm, e :: ds, d, h => by
    rw [List.zipWith_cons_cons] at h
    rcases List.mem_cons.mp h with q | m
    · exact ⟨x, e, List.mem_cons_self, List.mem_cons_self, q⟩
    · obtain ⟨y, f, h1, h2, h3⟩ := zip_mem m
      exact ⟨y, f, List.mem_cons_of_mem _ h1, List.mem_cons_of_mem _ h2, h3⟩
theorem kind_str {k : Str} {n : Nat} (h : (k, n) ∈ kinds) : PyData.strOk k = true := by
  have h0 : kinds.all (fun p => PyData.strOk p.1) = true := by decide +kernel
  exact List.all_eq_true.mp h0 _ h
mutual
theorem data_fz : ∀ t : P, fz t.data = true
  | .num _ => rfl
  | .nam _ => rfl
  | .fn _ => rfl
  | .op k as => datas_fz as
  | .lt nm as b => by
    show (fz (.tuple (List.zipWith rowD nm (P.datas as))) && (fz b.data && true)) = true
    rw [data_fz b, Bool.and_true, Bool.and_true]
    refine fzAll_iff.mpr fun d m => ?_
    obtain ⟨x, e, _, he, rfl⟩ := zip_mem m
    have := fzAll_iff.mp (datas_fz as) e he
    show (fz e && true) = true
    rw [this]
    rfl
theorem datas_fz : ∀ as : List P, fzAll (P.datas as) = true
  | [] => rfl
  | a :: as => by
    show (fz a.data && fzAll (P.datas as)) = true
    rw [data_fz a, datas_fz as]
    rfl
end
theorem lay_tup (xs : List PyData) : (PyData.tuple xs).canLay0 = PyData.canLayAll0 xs := by rw [PyData.canLay0]
theorem lay_str (x : Str) : (PyData.str x).canLay0 = PyData.strOk x := by rw [PyData.canLay0]
theorem lay_cons (x : PyData) (xs : List PyData) : PyData.canLayAll0 (x :: xs) = (x.canLay0 && PyData.canLayAll0 xs) := by rw [PyData.canLayAll0]
theorem lay_nil : PyData.canLayAll0 [] = true := by rw [PyData.canLayAll0]
mutual
theorem data_lay : ∀ t : P, t.ok → t.data.canLay0 = true
  | .num _, _ => by
    show (PyData.tuple [.str "number", .int _]).canLay0 = true
    rw [lay_tup, lay_cons, lay_cons, lay_nil, lay_str]
    simp only [PyData.canLay0]
    decide +kernel
  | .nam x, h => by
    show (PyData.tuple [.str "name", .str x]).canLay0 = true
    rw [lay_tup, lay_cons, lay_cons, lay_nil, lay_str, lay_str, nmOk.strOk (show nmOk x from h)]
    decide +kernel
  | .fn x, h => by
    show (PyData.tuple [.str "fun", .str x]).canLay0 = true
    rw [lay_tup, lay_cons, lay_cons, lay_nil, lay_str, lay_str, nmOk.strOk (show nmOk x from h)]
    decide +kernel
  | .op k as, h => by
    show (PyData.tuple (.str k :: P.datas as)).canLay0 = true
    have h' : (k, as.length) ∈ kinds ∧ P.oks as := h
    rw [lay_tup, lay_cons, lay_str, kind_str h'.1, datas_lay as h'.2]
    rfl
  | .lt nm as b, h => by
    show (PyData.tuple [.str "let", .tuple (List.zipWith rowD nm (P.datas as)), b.data]).canLay0 = true
    have h' : nm.length = as.length ∧ (∀ x, x ∈ nm → nmOk x) ∧ P.oks as ∧ P.ok b := h
    have hr : PyData.canLayAll0 (List.zipWith rowD nm (P.datas as)) = true := layAll_iff.mpr fun d m => by
      obtain ⟨x, e, hx, he, rfl⟩ := zip_mem m
      have q := layAll_iff.mp (datas_lay as h'.2.2.1) e he
      show (PyData.tuple [.str x, e]).canLay0 = true
      rw [lay_tup, lay_cons, lay_cons, lay_nil, lay_str, nmOk.strOk (h'.2.1 x hx), q]
      rfl
    rw [lay_tup, lay_cons, lay_cons, lay_cons, lay_nil, lay_str, lay_tup, hr, data_lay b h'.2.2.2]
    decide +kernel
theorem datas_lay : ∀ as : List P, P.oks as → PyData.canLayAll0 (P.datas as) = true
  | [], _ => lay_nil
  | a :: as, h => by
    have h' : P.ok a ∧ P.oks as := h
    show PyData.canLayAll0 (a.data :: P.datas as) = true
    rw [lay_cons, data_lay a h'.1, datas_lay as h'.2]
    rfl
end
theorem depth_tup (xs : List PyData) : (PyData.tuple xs).depth = PyData.depthAll xs + 1 := by simp only [PyData.depth]; try omega
theorem depth_str (x : Str) : (PyData.str x).depth = 0 := by simp only [PyData.depth]
theorem depthAll_cons (x : PyData) (xs : List PyData) : PyData.depthAll (x :: xs) = max x.depth (PyData.depthAll xs) := by simp only [PyData.depthAll]
mutual
theorem data_depth : ∀ t : P, t.data.depth ≤ 3 * t.deep
  | .num i => by
    show (PyData.tuple [.str "number", .int i]).depth ≤ 3 * 1
    simp only [PyData.depth, PyData.depthAll]
    try omega
  | .nam x => by
    show (PyData.tuple [.str "name", .str x]).depth ≤ 3 * 1
    simp only [PyData.depth, PyData.depthAll]
    try omega
  | .fn x => by
    show (PyData.tuple [.str "fun", .str x]).depth ≤ 3 * 1
    simp only [PyData.depth, PyData.depthAll]
    try omega
  | .op k as => by
    show (PyData.tuple (.str k :: P.datas as)).depth ≤ 3 * (1 + P.deeps as)
    have h1 := datas_depth as
    have h2 := depth_str k
    rw [depth_tup, depthAll_cons]
    omega
  | .lt nm as b => by
    show (PyData.tuple [.str "let", .tuple (List.zipWith rowD nm (P.datas as)), b.data]).depth ≤ 3 * (1 + max (P.deeps as) b.deep)
    have h1 := datas_depth as
    have h2 := data_depth b
    have h3 := depth_str "let"
    have h4 : PyData.depthAll (List.zipWith rowD nm (P.datas as)) ≤ 3 * P.deeps as + 1 := depthAll_le fun d m => by
      obtain ⟨x, e, hx, he, rfl⟩ := zip_mem m
      have q : e.depth ≤ PyData.depthAll (P.datas as) := depth_mem he
      show (PyData.tuple [.str x, e]).depth ≤ _
      have h5 := depth_str x
      rw [depth_tup, depthAll_cons, depthAll_cons]
      simp only [PyData.depthAll]
      omega
    rw [depth_tup, depthAll_cons, depthAll_cons, depthAll_cons, depth_tup]
    simp only [PyData.depthAll]
    omega
theorem datas_depth : ∀ as : List P, PyData.depthAll (P.datas as) ≤ 3 * P.deeps as
  | [] => by
    show PyData.depthAll [] ≤ _
    simp only [PyData.depthAll]
    try omega
  | a :: as => by
    have h1 := data_depth a
    have h2 := datas_depth as
    show PyData.depthAll (a.data :: P.datas as) ≤ 3 * max a.deep (P.deeps as)
    rw [depthAll_cons]
    omega
end
theorem data_shaped {t : P} (h : t.ok) (hd : t.deep ≤ 20) : SeqAt.shaped t.data = true := by
  have h1 := data_depth t
  unfold SeqAt.shaped
  rw [data_lay t h, Bool.true_and]
  exact decide_eq_true (by omega)
theorem datas_shaped {as : List P} (h : P.oks as) (hd : P.deeps as ≤ 20) : SeqAt.shaped (.list (P.datas as)) = true := by
  have h1 := datas_depth as
  have e : (PyData.list (P.datas as)).depth = PyData.depthAll (P.datas as) + 1 := by simp only [PyData.depth]; try omega
  have e2 : (PyData.list (P.datas as)).canLay0 = PyData.canLayAll0 (P.datas as) := by rw [PyData.canLay0]
  unfold SeqAt.shaped
  rw [e2, datas_lay as h, Bool.true_and]
  exact decide_eq_true (by omega)

/-! ### what a drawing makes -/
def gives (f : P) (as : List P) : P := as.foldl (fun a d => .op "give" [a, d]) f
theorem gives_snoc (f : P) (as : List P) (d : P) : gives f (as ++ [d]) = .op "give" [gives f as, d] := by
  unfold gives
  rw [List.foldl_append]
  rfl
/-- parts drawn one behind the other: of the functions W, the scope, the depth, with n parts and the names ss left ahead, n' and ss' behind -/
inductive Dr (W : List (Str × Int)) : List Str → Int → Int → List Str → Int → List Str → List P → Prop
  | nil {sc : List Str} {dp n : Int} {ss : List Str} : Dr W sc dp n ss n ss []
  | num {sc ss ss' : List Str} {dp n n' i : Int} {ds : List P} : i.natAbs < 10 ^ 60 → Dr W sc dp n ss n' ss' ds → Dr W sc dp n ss n' ss' (.num i :: ds)
  | nam {sc ss ss' : List Str} {dp n n' : Int} {x : Str} {ds : List P} : x ∈ sc → Dr W sc dp n ss n' ss' ds → Dr W sc dp n ss n' ss' (.nam x :: ds)
  | fn {sc ss ss' : List Str} {dp n n' w : Int} {f : Str} {ds : List P} : (f, w) ∈ W → Dr W sc dp n ss n' ss' ds → Dr W sc dp n ss n' ss' (.fn f :: ds)
  | call {sc ss ss1 ss' : List Str} {dp n n1 n' w : Int} {f : Str} {as ds : List P} : (f, w) ∈ W → 6 ≤ dp → as.length ≤ 5 → 2 * (as.length : Int) ≤ n →
      Dr W sc (dp - 1 - as.length) (n - 2 * as.length) ss n1 ss1 as → Dr W sc dp n1 ss1 n' ss' ds → Dr W sc dp n ss n' ss' (gives (.fn f) as :: ds)
  | lt {sc nm ss ss1 ss' : List Str} {dp n n1 n' : Int} {as ds : List P} {b : P} {k : Nat} : 1 ≤ dp → 1 ≤ nm.length → nm.length ≤ 4 → ss.drop k = nm.reverse → k + nm.length = ss.length → nm.length = as.length → (nm.length : Int) + 1 ≤ n →
      Dr W (sc ++ nm) (dp - 1) (n - (nm.length + 1)) (ss.take k) n1 ss1 (as ++ [b]) → Dr W sc dp n1 ss1 n' ss' ds → Dr W sc dp n ss n' ss' (.lt nm as b :: ds)
  | op {sc ss ss1 ss' : List Str} {dp n n1 n' : Int} {k : Str} {as ds : List P} : (k, as.length) ∈ kinds → 1 ≤ dp → (as.length : Int) ≤ n →
      Dr W sc (dp - 1) (n - as.length) ss n1 ss1 as → Dr W sc dp n1 ss1 n' ss' ds → Dr W sc dp n ss n' ss' (.op k as :: ds)

theorem Dr.append {W : List (Str × Int)} {sc ss ss1 ss' : List Str} {dp n n1 n' : Int} {as bs : List P} (h : Dr W sc dp n ss n1 ss1 as) : Dr W sc dp n1 ss1 n' ss' bs → Dr W sc dp n ss n' ss' (as ++ bs) := by
  induction h with
  | nil => exact id
  | num a _ ih => exact fun k => .num a (ih k)
  | nam a _ ih => exact fun k => .nam a (ih k)
  | fn a _ ih => exact fun k => .fn a (ih k)
  | call a b c d e _ _ ih => exact fun k => .call a b c d e (ih k)
  | lt a b c d e f g h _ _ ih => exact fun k => .lt a b c d e f g h (ih k)
  | op a b c d _ _ ih => exact fun k => .op a b c d (ih k)
/-- the names left are those ahead, some at the end gone -/
theorem Dr.names {W : List (Str × Int)} {sc ss ss' : List Str} {dp n n' : Int} {ds : List P} (h : Dr W sc dp n ss n' ss' ds) : ∃ m, ss' = ss.take m := by
  induction h with
  | nil => exact ⟨_, List.take_length.symm⟩
  | num _ _ ih => exact ih
  | nam _ _ ih => exact ih
  | fn _ _ ih => exact ih
  | call _ _ _ _ _ _ i1 i2 =>
    obtain ⟨m1, rfl⟩ := i1
    obtain ⟨m2, rfl⟩ := i2
    exact ⟨_, List.take_take⟩
  | lt _ _ _ _ _ _ _ _ _ i1 i2 =>
    obtain ⟨m1, rfl⟩ := i1
    obtain ⟨m2, rfl⟩ := i2
    exact ⟨_, by rw [List.take_take, List.take_take]⟩
  | op _ _ _ _ _ i1 i2 =>
    obtain ⟨m1, rfl⟩ := i1
    obtain ⟨m2, rfl⟩ := i2
    exact ⟨_, List.take_take⟩
theorem Dr.sub {W : List (Str × Int)} {sc ss ss' : List Str} {dp n n' : Int} {ds : List P} (h : Dr W sc dp n ss n' ss' ds) : ∀ x, x ∈ ss' → x ∈ ss := fun x m => by
  obtain ⟨k, rfl⟩ := h.names
  exact List.mem_of_mem_take m
theorem Dr.len {W : List (Str × Int)} {sc ss ss' : List Str} {dp n n' : Int} {ds : List P} (h : Dr W sc dp n ss n' ss' ds) : ss'.length ≤ ss.length := by
  obtain ⟨k, rfl⟩ := h.names
  rw [List.length_take]
  omega
theorem gives_ok : ∀ {as : List P} {f : P}, f.ok → (∀ a, a ∈ as → a.ok) → (gives f as).ok
  | [], _, h, _ => h
  | a :: as, f, h, k => by
    show (gives (.op "give" [f, a]) as).ok
    refine gives_ok ⟨?_, h, k a List.mem_cons_self, True.intro⟩ fun b m => k b (List.mem_cons_of_mem _ m)
    show (("give" : Str), 2) ∈ kinds
    exact List.mem_cons_self
theorem gives_many : ∀ {as : List P} {f : P}, (gives f as).many = f.many + P.manys as + as.length
  | [], f => by
    show f.many = f.many + 0 + 0
    omega
  | a :: as, f => by
    show (gives (.op "give" [f, a]) as).many = f.many + (a.many + P.manys as) + (as.length + 1)
    rw [gives_many]
    show 1 + (f.many + (a.many + 0)) + _ + _ = _
    omega
theorem gives_deep : ∀ {as : List P} {f : P}, (gives f as).deep ≤ max f.deep (P.deeps as) + as.length
  | [], f => by
    show f.deep ≤ max f.deep 0 + 0
    omega
  | a :: as, f => by
    have h := gives_deep (as := as) (f := .op "give" [f, a])
    have e : (P.op "give" [f, a]).deep = 1 + max f.deep (max a.deep 0) := rfl
    show (gives (.op "give" [f, a]) as).deep ≤ max f.deep (max a.deep (P.deeps as)) + (as.length + 1)
    omega
/-- names of functions, of the scope and those left are names -/
structure Nms (W : List (Str × Int)) (sc ss : List Str) : Prop where
  w : ∀ f, f ∈ W → nmOk f.1
  c : ∀ x, x ∈ sc → nmOk x
  s : ∀ x, x ∈ ss → nmOk x
theorem Dr.ok {W : List (Str × Int)} {sc ss ss' : List Str} {dp n n' : Int} {ds : List P} (h : Dr W sc dp n ss n' ss' ds) : Nms W sc ss → ∀ d, d ∈ ds → d.ok := by
  induction h with
  | nil => exact fun _ _ m => nomatch m
  | num _ _ ih =>
    intro N d m
    rcases List.mem_cons.mp m with e | m
    · rw [e]; exact True.intro
    · exact ih N d m
  | nam hx _ ih =>
    intro N d m
    rcases List.mem_cons.mp m with e | m
    · rw [e]; exact N.c _ hx
    · exact ih N d m
  | fn hf _ ih =>
    intro N d m
    rcases List.mem_cons.mp m with e | m
    · rw [e]; exact N.w _ hf
    · exact ih N d m
  | call hf _ _ _ k1 k2 i1 i2 =>
    intro N d m
    rcases List.mem_cons.mp m with e | m
    · rw [e]
      exact gives_ok (N.w _ hf) (i1 N)
    · exact i2 ⟨N.w, N.c, fun x hx => N.s x (k1.sub x hx)⟩ d m
  | @lt sc nm ss ss1 ss' dp n n1 n' as ds b k _ _ _ e1 e2 e3 _ k1 k2 i1 i2 =>
    intro N d m
    have hnm : ∀ x, x ∈ nm → x ∈ ss := fun x hx => by
      have : x ∈ ss.drop k := by rw [e1]; exact List.mem_reverse.mpr hx
      exact List.mem_of_mem_drop this
    rcases List.mem_cons.mp m with e | m
    · have q := i1 ⟨N.w, fun x hx => (List.mem_append.mp hx).elim (N.c x) fun hx => N.s x (hnm x hx), fun x hx => N.s x (List.mem_of_mem_take hx)⟩
      rw [e]
      exact ⟨e3, fun x hx => N.s x (hnm x hx), oks_iff.mpr fun a ha => q a (List.mem_append_left _ ha), q b (List.mem_append_right _ List.mem_cons_self)⟩
    · exact i2 ⟨N.w, N.c, fun x hx => N.s x (List.mem_of_mem_take (k1.sub x hx))⟩ d m
  | op hk _ _ k1 k2 i1 i2 =>
    intro N d m
    rcases List.mem_cons.mp m with e | m
    · rw [e]
      exact ⟨hk, oks_iff.mpr (i1 N)⟩
    · exact i2 ⟨N.w, N.c, fun x hx => N.s x (k1.sub x hx)⟩ d m
theorem Dr.many {W : List (Str × Int)} {sc ss ss' : List Str} {dp n n' : Int} {ds : List P} (h : Dr W sc dp n ss n' ss' ds) : (P.manys ds : Int) = ds.length + (n - n') := by
  induction h with
  | nil =>
    show ((0 : Nat) : Int) = ((0 : Nat) : Int) + _
    omega
  | @num sc ss ss' dp n n' i ds _ _ ih =>
    show ((1 + P.manys ds : Nat) : Int) = ((ds.length + 1 : Nat) : Int) + (n - n')
    omega
  | @nam sc ss ss' dp n n' i ds _ _ ih =>
    show ((1 + P.manys ds : Nat) : Int) = ((ds.length + 1 : Nat) : Int) + (n - n')
    omega
  | @fn sc ss ss' dp n n' i f ds _ _ ih =>
    show ((1 + P.manys ds : Nat) : Int) = ((ds.length + 1 : Nat) : Int) + (n - n')
    omega
  | @call sc ss ss1 ss' dp n n1 n' w f as ds _ _ _ _ _ _ i1 i2 =>
    have e : (gives (.fn f) as).many = 1 + P.manys as + as.length := gives_many
    show (((gives (.fn f) as).many + P.manys ds : Nat) : Int) = ((ds.length + 1 : Nat) : Int) + (n - n')
    rw [e]
    omega
  | @lt sc nm ss ss1 ss' dp n n1 n' as ds b k _ _ _ e1 e2 e3 _ k1 k2 i1 i2 =>
    rw [manys_append] at i1
    have e : P.manys [b] = b.many + 0 := rfl
    rw [List.length_append] at i1
    show ((1 + (P.manys as + b.many) + P.manys ds : Nat) : Int) = ((ds.length + 1 : Nat) : Int) + (n - n')
    have e5 : [b].length = 1 := rfl
    omega
  | @op sc ss ss1 ss' dp n n1 n' kd as ds _ _ _ _ _ i1 i2 =>
    show ((1 + P.manys as + P.manys ds : Nat) : Int) = ((ds.length + 1 : Nat) : Int) + (n - n')
    omega
theorem Dr.less {W : List (Str × Int)} {sc ss ss' : List Str} {dp n n' : Int} {ds : List P} (h : Dr W sc dp n ss n' ss' ds) : n' ≤ n := by
  have := h.many
  have := len_manys ds
  omega
theorem Dr.nonneg {W : List (Str × Int)} {sc ss ss' : List Str} {dp n n' : Int} {ds : List P} (h : Dr W sc dp n ss n' ss' ds) : 0 ≤ n → 0 ≤ n' := by
  induction h with
  | nil => exact id
  | num _ _ ih => exact ih
  | nam _ _ ih => exact ih
  | fn _ _ ih => exact ih
  | call _ _ _ _ _ _ i1 i2 => exact fun h => i2 (i1 (by omega))
  | lt _ _ _ _ _ _ _ _ _ i1 i2 => exact fun h => i2 (i1 (by omega))
  | op _ _ _ _ _ i1 i2 => exact fun h => i2 (i1 (by omega))
theorem Dr.deep {W : List (Str × Int)} {sc ss ss' : List Str} {dp n n' : Int} {ds : List P} (h : Dr W sc dp n ss n' ss' ds) : P.deeps ds ≤ dp.toNat + 1 := by
  induction h with
  | nil => exact Nat.zero_le _
  | num _ _ ih =>
    show max 1 (P.deeps _) ≤ _
    omega
  | nam _ _ ih =>
    show max 1 (P.deeps _) ≤ _
    omega
  | fn _ _ ih =>
    show max 1 (P.deeps _) ≤ _
    omega
  | @call sc ss ss1 ss' dp n n1 n' w f as ds _ _ _ _ _ _ i1 i2 =>
    have e : (gives (.fn f) as).deep ≤ max 1 (P.deeps as) + as.length := gives_deep
    show max (gives (.fn f) as).deep (P.deeps ds) ≤ _
    omega
  | @lt sc nm ss ss1 ss' dp n n1 n' as ds b k _ _ _ e1 e2 e3 _ k1 k2 i1 i2 =>
    rw [deeps_append] at i1
    have e : P.deeps [b] = max b.deep 0 := rfl
    show max (1 + max (P.deeps as) b.deep) (P.deeps ds) ≤ _
    omega
  | @op sc ss ss1 ss' dp n n1 n' kd as ds _ _ _ _ _ i1 i2 =>
    show max (1 + P.deeps as) (P.deeps ds) ≤ _
    omega
theorem kind_plain {k : Str} {n : Nat} (h : (k, n) ∈ kinds) : k ≠ "let" ∧ k ≠ "number" ∧ k ≠ "name" ∧ k ≠ "fun" := by
  have h0 : kinds.all (fun p => decide (p.1 ≠ "let") && decide (p.1 ≠ "number") && decide (p.1 ≠ "name") && decide (p.1 ≠ "fun")) = true := by decide +kernel
  have q := List.all_eq_true.mp h0 _ h
  simp only [Bool.and_eq_true, decide_eq_true_eq] at q
  exact ⟨q.1.1.1, q.1.1.2, q.1.2, q.2⟩
/-- the greatest of the depths -/
theorem deeps_is : ∀ {as : List P} {m : Int}, m ∈ as.map (fun t => (t.deep : Int)) → (∀ y, y ∈ as.map (fun t => (t.deep : Int)) → y ≤ m) → m = (P.deeps as : Int)
  | as, m, h, k => by
    obtain ⟨t, ht, rfl⟩ := List.mem_map.mp h
    have h1 := deeps_mem ht
    have h2 : P.deeps as ≤ t.deep := deeps_le fun a ha => by
      have := k (a.deep : Int) (List.mem_map.mpr ⟨a, ha, rfl⟩)
      omega
    omega
theorem manys_sum : ∀ as : List P, (as.map (fun t => (t.many : Int))).sum = (P.manys as : Int)
  | [] => rfl
  | a :: as => by
    rw [List.map_cons, List.sum_cons, manys_sum as]
    show (a.many : Int) + (P.manys as : Int) = ((a.many + P.manys as : Nat) : Int)
    omega
theorem arity_le {k : Str} {n : Nat} (h : (k, n) ∈ kinds) : 1 ≤ n ∧ n ≤ 3 := by
  have h0 : kinds.all (fun p => decide (1 ≤ p.2) && decide (p.2 ≤ 3)) = true := by decide +kernel
  have q := List.all_eq_true.mp h0 _ h
  simp only [Bool.and_eq_true, decide_eq_true_eq] at q
  exact q
theorem rows_fz {nm : List Str} {as : List P} : fzAll (List.zipWith rowD nm (P.datas as)) = true := fzAll_iff.mpr fun d m => by
  obtain ⟨x, e, _, he, rfl⟩ := zip_mem m
  have := fzAll_iff.mp (datas_fz as) e he
  show (true && (fz e && true)) = true
  rw [this]
  rfl
end Lz

set_option Elab.async false
set_option linter.all false
set_option maxRecDepth 100000
set_option maxHeartbeats 4000000
/-! What is kept while lists of a few addresses change; parts as data; what a drawing may make. -/
namespace Lz
open PySem PySem.Spec PyProof.Rows L2

/-! ### heaps: all is kept but the lists at the addresses of S -/
def Kp (S : List Addr) (H H' : Hp) : Prop := ∀ b o, H b = some o → (b ∈ S → ∀ xs, o ≠ HO.lst xs) → H' b = some o
section
variable {S T : List Addr} {H H1 H2 H' : Hp} {K : PySem.W.Frag} {a b p : Addr} {xs ys : List V} {o : HO}
theorem Kp.refl (S : List Addr) (H : Hp) : Kp S H H := fun _ _ h _ => h
theorem Kp.trans (h : Kp S H H1) (k : Kp S H1 H2) : Kp S H H2 := fun c o e n => k c o (h c o e n) n
theorem Kp.mono (h : Kp S H H') (m : ∀ x, x ∈ S → x ∈ T) : Kp T H H' := fun c o e n => h c o e fun i => n (m c i)
theorem Kp.same (h : Same H H') : Kp S H H' := fun b o e _ => h b o e
theorem Kp.new (h : H p = none) : Kp S H (upd H p o) := fun b x e _ => by
  rw [upd_ne (ne_of_none e h)]
  exact e
theorem Kp.put (h : H p = some (.lst xs)) (m : p ∈ S) : Kp S H (upd H p o) := fun b x e n => by
  by_cases q : b = p
  · subst q
    exact absurd (Option.some.inj (e.symm.trans h)) (n m xs)
  · rw [upd_ne q]
    exact e
theorem Kp.lst (k : Kp S H H') (h : H a = some (.lst xs)) (n : ¬ a ∈ S) : H' a = some (.lst xs) := k a _ h fun m => absurd m n
theorem Kp.tup (k : Kp S H H') (h : H a = some (.tup xs)) : H' a = some (.tup xs) := k a _ h fun _ _ => fun e => nomatch e
theorem Kp.sqT (k : Kp S H H') (h : SqT K H a xs) : SqT K H' a xs := by
  rcases h with (h | ⟨o, h⟩) | h
  · exact .inl (.inl (k.tup h))
  · exact .inl (.inr ⟨o, k a _ h fun _ _ e => nomatch e⟩)
  · exact .inr h
theorem Kp.sqL (k : Kp S H H') (h : SqL K H a xs) (n : ¬ a ∈ S) : SqL K H' a xs := by
  rcases h with (h | ⟨o, h⟩) | h
  · exact .inl (.inl (k.lst h n))
  · exact .inl (.inr ⟨o, k a _ h fun _ _ e => nomatch e⟩)
  · exact .inr h
theorem Kp.free (k : Kp S H H1) (h : H1 p = none) (n : ¬ p ∈ S) : H p = none := by
  cases e : H p with
  | none => rfl
  | some o =>
    have := k p o e fun m => absurd m n
    rw [h] at this
    cases this
/-- an object that H does not know may change -/
theorem Kp.mut (k : Kp S H H') (h : H p = none) : Kp S H (upd H' p o) := fun b x e n => by
  rw [upd_ne (ne_of_none e h)]
  exact k b x e n
theorem same_new (h : H p = none) : Same H (upd H p o) := fun b u q => by
  rw [upd_ne (ne_of_none q h)]
  exact q
end

end Lz
namespace L2
open PySem PySem.Spec PyProof.Rows Lz
section
variable {S : List Addr} {H H' : Hp} {K : PySem.W.Frag}
mutual
theorem Dp.keep (k : Kp S H H') : ∀ (d : PyData) (v : V), fz d = true → Dp K H v d → Dp K H' v d
  | .none, _, _, h => by cases h; exact .non
  | .bool b, _, _, h => by cases h; exact .bl b
  | .int i, _, _, h => by cases h; exact .int i
  | .str x, _, _, h => by cases h; exact .str x
  | .list ds, _, f, _ => by
    have : false = true := f
    cases this
  | .tuple ds, _, f, h => by
    cases h with
    | tup hs ha => exact .tup (k.sqT hs) (Dp.keepAll k ds _ f ha)
  | .dict _, _, _, h => by cases h
theorem Dp.keepAll (k : Kp S H H') : ∀ (ds : List PyData) (vs : List V), fzAll ds = true → DpAll K H vs ds → DpAll K H' vs ds
  | [], _, _, h => by cases h; exact .nil
  | d :: ds, _, f, h => by
    have f' : fz d = true ∧ fzAll ds = true := by
      have : (fz d && fzAll ds) = true := f
      rwa [Bool.and_eq_true] at this
    cases h with
    | cons h1 h2 => exact .cons (Dp.keep k d _ f'.1 h1) (Dp.keepAll k ds _ f'.2 h2)
end
theorem DpAll.length : ∀ {vs : List V} {ds : List PyData}, DpAll K H vs ds → vs.length = ds.length
  | _, _, .nil => rfl
  | _, _, .cons _ t => by rw [List.length_cons, List.length_cons, DpAll.length t]
theorem DpAll.get : ∀ {vs : List V} {ds : List PyData} {i : Nat} {d : PyData}, DpAll K H vs ds → ds[i]? = some d → ∃ v, vs[i]? = some v ∧ Dp K H v d
  | _, _, _, _, .nil, e => by simp at e
  | _, _, 0, _, .cons h _, e => by
    have e' := Option.some.inj e
    subst e'
    exact ⟨_, rfl, h⟩
  | _, _, i + 1, d, .cons _ t, e => by
    obtain ⟨v, h1, h2⟩ := DpAll.get (i := i) (d := d) t e
    exact ⟨v, h1, h2⟩
theorem DpAll.at : ∀ {vs : List V} {ds : List PyData} {i : Nat} {v : V}, DpAll K H vs ds → vs[i]? = some v → ∃ d, ds[i]? = some d ∧ Dp K H v d
  | _, _, _, _, .nil, e => by simp at e
  | _, _, 0, _, .cons h _, e => by
    have e' := Option.some.inj e
    subst e'
    exact ⟨_, rfl, h⟩
  | _, _, i + 1, d, .cons _ t, e => by
    obtain ⟨v, h1, h2⟩ := DpAll.at (i := i) (v := d) t e
    exact ⟨v, h1, h2⟩
theorem DpAll.append : ∀ {vs ws : List V} {ds es : List PyData}, DpAll K H vs ds → DpAll K H ws es → DpAll K H (vs ++ ws) (ds ++ es)
  | _, _, _, _, .nil, t => t
  | _, _, _, _, .cons h s, t => .cons h (DpAll.append s t)
theorem DpAll.one {v : V} {d : PyData} (h : Dp K H v d) : DpAll K H [v] [d] := .cons h .nil
theorem DpAll.take : ∀ {vs : List V} {ds : List PyData} (n : Nat), DpAll K H vs ds → DpAll K H (vs.take n) (ds.take n)
  | _, _, 0, _ => .nil
  | _, _, _ + 1, .nil => .nil
  | _, _, n + 1, .cons h t => .cons h (DpAll.take n t)
theorem DpAll.drop : ∀ {vs : List V} {ds : List PyData} (n : Nat), DpAll K H vs ds → DpAll K H (vs.drop n) (ds.drop n)
  | _, _, 0, h => h
  | _, _, _ + 1, .nil => .nil
  | _, _, n + 1, .cons _ t => DpAll.drop n t
theorem DpAll.strs : ∀ (xs : List Str), DpAll K H (xs.map V.str) (xs.map PyData.str)
  | [] => .nil
  | x :: xs => .cons (.str x) (DpAll.strs xs)
theorem Dp.tup_of {v : V} {ds : List PyData} (h : Dp K H v (.tuple ds)) : ∃ a xs, v = .ref a ∧ SqT K H a xs ∧ DpAll K H xs ds := by
  cases h with
  | tup hs ha => exact ⟨_, _, rfl, hs, ha⟩
theorem Dp.lst_of {v : V} {ds : List PyData} (h : Dp K H v (.list ds)) : ∃ a xs, v = .ref a ∧ SqL K H a xs ∧ DpAll K H xs ds := by
  cases h with
  | lst hs ha => exact ⟨_, _, rfl, hs, ha⟩
theorem Dp.str_of {v : V} {x : Str} (h : Dp K H v (.str x)) : v = .str x := by cases h; rfl
theorem Dp.int_of {v : V} {i : Int} (h : Dp K H v (.int i)) : v = .int i := by cases h; rfl
/-- a new tuple of data -/
theorem Dp.newT {p : Addr} {xs : List V} {ds : List PyData} (hp : H p = none) (h : DpAll K H xs ds) (f : fzAll ds = true) : Dp K (upd H p (.tup xs)) (.ref p) (.tuple ds) :=
  .tup (.inl (.inl upd_same)) (Dp.keepAll (S := []) (Kp.new hp) ds xs f h)
end
end L2

set_option Elab.async false
set_option linter.all false
set_option maxRecDepth 100000
set_option maxHeartbeats 4000000
/-! Texts: letters, names; small facts of lists as data. -/
namespace Lz
open PySem PySem.Spec PyProof.Rows L2
abbrev letters : Str := "abcdefghijklmnopqrstuvwxyz"
theorem letters_at {r : Int} (h0 : 0 ≤ r) (h1 : r < 26) : atI letters.cps.toList r = some (97 + r.toNat) := by
  have h : ∀ j, j < 26 → letters.cps.toList[j]? = some (97 + j) := by decide +kernel
  have q := atI_nat (xs := letters.cps.toList) (h r.toNat (by omega))
  rwa [Int.toNat_of_nonneg h0] at q
theorem letters_len : letters.length ≤ sizeLine := by decide +kernel
theorem glue_list (sep : Str) (hs : sep.cps = #[]) : ∀ (rest : List Str) (acc : Array Nat), (rest.foldl (fun acc p => acc ++ sep.cps ++ p.cps) acc).toList = acc.toList ++ (rest.map (·.cps.toList)).flatten
  | [], acc => by simp
  | x :: r, acc => by
    rw [List.foldl_cons, glue_list sep hs r, hs]
    simp
theorem join_list (ys : List Str) : (Txt.join ("" : Str) ys).cps.toList = (ys.map (·.cps.toList)).flatten := by
  have hs : ("" : Str).cps = #[] := by decide +kernel
  show ((ys.drop 1).foldl (fun acc p => acc ++ ("" : Str).cps ++ p.cps) (ys.headD Str.empty).cps).toList = _
  rw [glue_list _ hs]
  cases ys with
  | nil => rfl
  | cons x r => simp
def one (c : Nat) : Str := ⟨#[c]⟩
theorem join_ones (cs : List Nat) : (Txt.join ("" : Str) (cs.map one)).cps.toList = cs := by
  rw [join_list, List.map_map]
  induction cs with
  | nil => rfl
  | cons c r ih =>
    rw [List.map_cons, List.flatten_cons, ih]
    rfl
theorem sum_ones : ∀ cs : List Nat, ((cs.map one).map (·.length)).sum = cs.length
  | [] => rfl
  | c :: r => by
    rw [List.map_cons, List.map_cons, List.sum_cons, sum_ones r, List.length_cons]
    show 1 + _ = _
    omega
theorem str_len (z : Str) : z.length = z.cps.toList.length := by
  show z.cps.size = _
  simp
theorem str_ext {a b : Str} (h : a.cps.toList = b.cps.toList) : a = b := by
  cases a
  cases b
  simp only [Str.mk.injEq]
  exact Array.toList_inj.mp h
theorem cat_list (a b : Str) : (a ++ b).cps.toList = a.cps.toList ++ b.cps.toList := by
  show (a.cps ++ b.cps).toList = _
  simp
theorem cut_to (z : Str) (k : Nat) : (cutS z none (some (k : Int))).cps.toList = z.cps.toList.take k := by
  unfold cutS
  rw [HT.sIx_none, HT.sIx_nat, str_len]
  simp
theorem cut_from (z : Str) (k : Nat) : (cutS z (some (k : Int)) none).cps.toList = z.cps.toList.drop k := by
  unfold cutS
  rw [HT.sIx_none, HT.sIx_nat, str_len]
  by_cases h : k ≤ z.cps.toList.length
  · rw [Nat.min_eq_left h]
    exact List.take_of_length_le (by rw [List.length_drop]; exact Nat.le_refl _)
  · rw [List.drop_eq_nil_of_le (by omega : z.cps.toList.length ≤ k), List.drop_eq_nil_of_le (by omega)]
    simp
def nameOf (wd : List Nat) (k : Nat) (c : Nat) : Str := ⟨(wd.take k ++ [c] ++ wd.drop (k + 1)).toArray⟩
theorem nameOf_eq {z : Str} {wd : List Nat} {k : Nat} {c : Nat} (hz : z.cps.toList = wd) : (cutS z none (some (k : Int)) ++ (⟨#[c]⟩ : Str)) ++ cutS z (some ((k : Int) + 1)) none = nameOf wd k c := by
  apply str_ext
  have e : ((k : Int) + 1) = ((k + 1 : Nat) : Int) := by omega
  rw [cat_list, cat_list, cut_to, e, cut_from, hz]
  unfold nameOf
  simp
theorem nameOf_ok {wd : List Nat} {k c : Nat} (h1 : 1 ≤ wd.length) (h8 : wd.length ≤ 8) (hk : k < wd.length) (hw : ∀ c, c ∈ wd → 97 ≤ c ∧ c ≤ 122) (hc : 97 ≤ c ∧ c ≤ 122) : nmOk (nameOf wd k c) := by
  have e : (nameOf wd k c).cps.toList = wd.take k ++ [c] ++ wd.drop (k + 1) := by unfold nameOf; simp
  have el : (nameOf wd k c).length = wd.length := by
    rw [str_len, e, List.length_append, List.length_append, List.length_take, List.length_drop, List.length_singleton]
    omega
  refine ⟨by omega, by omega, fun d hd => ?_⟩
  rw [e] at hd
  rcases List.mem_append.mp hd with hd | hd
  · rcases List.mem_append.mp hd with hd | hd
    · exact hw d (List.mem_of_mem_take hd)
    · rw [List.mem_singleton.mp hd]
      exact hc
  · exact hw d (List.mem_of_mem_drop hd)
theorem nameOf_inj {wd : List Nat} {k c d : Nat} (h : nameOf wd k c = nameOf wd k d) : c = d := by
  unfold nameOf at h
  have h' := congrArg (fun z : Str => z.cps.toList) h
  simp at h'
  exact h'
theorem nodup_map_of {α β : Type} {f : α → β} : ∀ {l : List α}, l.Nodup → (∀ a, a ∈ l → ∀ b, b ∈ l → f a = f b → a = b) → (l.map f).Nodup
  | [], _, _ => List.nodup_nil
  | x :: r, h, k => by
    rw [List.nodup_cons] at h
    rw [List.map_cons, List.nodup_cons]
    refine ⟨fun m => ?_, nodup_map_of h.2 fun a ha b hb => k a (List.mem_cons_of_mem _ ha) b (List.mem_cons_of_mem _ hb)⟩
    obtain ⟨y, hy, e⟩ := List.mem_map.mp m
    have := k y (List.mem_cons_of_mem _ hy) x List.mem_cons_self e
    exact h.1 (this ▸ hy)
/-- the names drawn from a word -/
def namesOf (wd : List Nat) (k fi b m : Nat) : List Str := (List.range m).map fun j => nameOf wd k (97 + (fi + b * j) % 26)
theorem namesOf_len (wd : List Nat) (k fi b m : Nat) : (namesOf wd k fi b m).length = m := by
  unfold namesOf
  rw [List.length_map, List.length_range]
theorem namesOf_ok {wd : List Nat} {k fi b m : Nat} (h1 : 1 ≤ wd.length) (h8 : wd.length ≤ 8) (hk : k < wd.length) (hw : ∀ c, c ∈ wd → 97 ≤ c ∧ c ≤ 122) : ∀ x, x ∈ namesOf wd k fi b m → nmOk x := fun x hx => by
  obtain ⟨j, _, rfl⟩ := List.mem_map.mp hx
  exact nameOf_ok h1 h8 hk hw ⟨by omega, by omega⟩
theorem namesOf_nodup {wd : List Nat} {k fi b m : Nat} (hm : m ≤ 26) (hb : b = 1 ∨ b = 3 ∨ b = 5 ∨ b = 7 ∨ b = 9 ∨ b = 11) : (namesOf wd k fi b m).Nodup := by
  refine nodup_map_of List.nodup_range fun i hi j hj e => ?_
  have e' := nameOf_inj e
  have hi' := List.mem_range.mp hi
  have hj' := List.mem_range.mp hj
  rcases hb with rfl | rfl | rfl | rfl | rfl | rfl <;> omega
/-! ### lists as data -/
theorem eqv_nil (xs : List PyData) : PyData.eqv (.list xs) (.list []) = xs.isEmpty := by
  rw [PyData.eqv]
  cases xs with
  | nil => rfl
  | cons x r => rfl
theorem nil_shaped : SeqAt.shaped (.list []) = true := by decide +kernel
theorem strs_shaped {xs : List Str} (h : ∀ x, x ∈ xs → nmOk x) : SeqAt.shaped (.list (xs.map .str)) = true := by
  have e : (PyData.list (xs.map .str)).depth = PyData.depthAll (xs.map .str) + 1 := by simp only [PyData.depth]
  have e2 : (PyData.list (xs.map .str)).canLay0 = PyData.canLayAll0 (xs.map .str) := by rw [PyData.canLay0]
  have h1 : PyData.depthAll (xs.map .str) ≤ 0 := depthAll_le fun d m => by
    obtain ⟨x, _, rfl⟩ := List.mem_map.mp m
    rw [depth_str]
    exact Nat.le_refl _
  have h2 : PyData.canLayAll0 (xs.map .str) = true := layAll_iff.mpr fun d m => by
    obtain ⟨x, hx, rfl⟩ := List.mem_map.mp m
    rw [lay_str]
    exact (h x hx).strOk
  unfold SeqAt.shaped
  rw [e2, h2, Bool.true_and]
  exact decide_eq_true (by omega)
def wD (f : Str × Int) : PyData := .tuple [.str f.1, .int f.2]
theorem wds_shaped {W : List (Str × Int)} (h : ∀ f, f ∈ W → nmOk f.1) : SeqAt.shaped (.list (W.map wD)) = true := by
  have e : (PyData.list (W.map wD)).depth = PyData.depthAll (W.map wD) + 1 := by simp only [PyData.depth]
  have e2 : (PyData.list (W.map wD)).canLay0 = PyData.canLayAll0 (W.map wD) := by rw [PyData.canLay0]
  have h1 : PyData.depthAll (W.map wD) ≤ 1 := depthAll_le fun d m => by
    obtain ⟨x, _, rfl⟩ := List.mem_map.mp m
    show (PyData.tuple [.str x.1, .int x.2]).depth ≤ 1
    simp only [PyData.depth, PyData.depthAll]
    omega
  have h2 : PyData.canLayAll0 (W.map wD) = true := layAll_iff.mpr fun d m => by
    obtain ⟨x, hx, rfl⟩ := List.mem_map.mp m
    show (PyData.tuple [.str x.1, .int x.2]).canLay0 = true
    rw [lay_tup, lay_cons, lay_cons, lay_nil, lay_str, (h x hx).strOk]
    simp only [PyData.canLay0]
    rfl
  unfold SeqAt.shaped
  rw [e2, h2, Bool.true_and]
  exact decide_eq_true (by omega)
theorem wds_fz : ∀ W : List (Str × Int), fzAll (W.map wD) = true
  | [] => rfl
  | _ :: r => by
    show (true && fzAll (r.map wD)) = true
    rw [wds_fz r]
    rfl
theorem strs_fz : ∀ xs : List Str, fzAll (xs.map .str) = true
  | [] => rfl
  | _ :: r => by
    show (true && fzAll (r.map .str)) = true
    rw [strs_fz r]
    rfl
end Lz

set_option Elab.async false
set_option linter.all false
set_option maxRecDepth 100000
set_option maxHeartbeats 4000000
/-! The rules by a written part that is named: so they serve within a comprehension too. -/
namespace Lz
open PySem PySem.Spec PyProof.Rows L2
section
variable {X : Cx} {K : PySem.W.Frag}
theorem ix_listK (h : X.K = K) : IxR X (rIxL K) := by subst h; exact ix_list
theorem ix_tupK (h : X.K = K) : IxR X (rIxT K) := by subst h; exact ix_tup
theorem sl_listK (h : X.K = K) : SlR X (rSlL K) := by subst h; exact sl_list
theorem sl_tupAK (h : X.K = K) : SlR X (rSlA K) := by subst h; exact sl_tupA
theorem op_eqDK (h : X.K = K) (hu : X.A.units + 64 < cLine) : OpR X (compareOp .Eq) (rEqD K) := by subst h; exact op_eqD hu
theorem op_neDK (h : X.K = K) (hu : X.A.units + 64 < cLine) : OpR X (compareOp .NotEq) (rNeD K) := by subst h; exact op_neD hu
theorem op_catAK (h : X.K = K) : OpR X (binaryOp .Add) (rCatA K) := by subst h; exact op_catA
theorem op_inK (h : X.K = K) : OpR X (compareOp .In) (rIn K false) := by subst h; exact op_in_seq
theorem op_notInK (h : X.K = K) : OpR X (compareOp .NotIn) (rIn K true) := by subst h; exact op_notIn_seq
def rLenS (K : PySem.W.Frag) : List V → Hp → VK → Prop := fun xs H Q => ∃ p ys, xs = [.ref p] ∧ (SqL K H p ys ∨ SqT K H p ys) ∧ Q (.int ys.length) H
theorem call_lenK (h : X.K = K) : CallR X (.builtin "len") (rLenS K) := by subst h; exact call_len_seq
def rListOf (K : PySem.W.Frag) : List V → Hp → VK → Prop := fun xs H Q => ∃ p ys, xs = [.ref p] ∧ (SqL K H p ys ∨ SqT K H p ys) ∧ ∀ l, H l = none → Q (.ref l) (upd H l (.lst ys))
theorem call_listK (h : X.K = K) : CallR X (.type "list") (rListOf K) := by subst h; exact call_list_of
def rTupOf (K : PySem.W.Frag) : List V → Hp → VK → Prop := fun xs H Q => ∃ p ys, xs = [.ref p] ∧ ((SqL K H p ys ∧ ∀ l, H l = none → Q (.ref l) (upd H l (.tup ys))) ∨ (SqT K H p ys ∧ Q (.ref p) H))
theorem call_tupleK (h : X.K = K) : CallR X (.type "tuple") (rTupOf K) := by subst h; exact call_tuple_of
theorem call_isK (h : X.K = K) : CallR X (.builtin "isinstance") (rIsi K) := by subst h; exact call_isi
theorem call_sumK (h : X.K = K) (hc : X.calm = true) : CallR X (.builtin "sum") (rSum K) := by subst h; exact cr_sum hc
theorem call_maxK (h : X.K = K) (hc : X.calm = true) : CallR X (.builtin "max") (rMax K) := by subst h; exact cr_max hc
theorem call_allK (h : X.K = K) (hc : X.calm = true) : CallR X (.builtin "all") (rAll K) := by subst h; exact cr_all hc
def tTruK (K : PySem.W.Frag) (ta : TE) : TT := fun σ H Q => ta σ H fun x H' => ∃ k, TruV K x H' k ∧ Q k H'
theorem pt_truthK {a : Expr} {ta : TE} (h : X.K = K) (ha : PE X a ta) (he : ∀ whole, isTrue a X.env whole = (do let v ← whole; standAt a.pos; holding [v] (truthy v))) : PT X a (tTruK K ta) := by subst h; exact pt_truth ha he
theorem pe_bm0K {T id : String} {name : Str} {r : V → List V → Hp → VK → Prop} {o : Expr} {to : TE} {apos cpos : Pos} (h : X.K = K) (pa : PlainAttrs T) (slot : Slot T name id) (hty : typeOf (.builtin id) = pure (.type "method_descriptor")) (hm : MtR X id r) (ho : PE X o to)
    (hbase : attributeBase o name X.env (eval o X.env) = eval o X.env := by rfl) (hline : (apos.endLine == cpos.line) = true := by rfl) : PE X (.Call (.Attribute o name apos) [] [] cpos) (tBM0 K T r to) := by
  subst h
  exact pe_bm0 pa slot hty hm ho hbase hline
theorem pe_bmK {T id : String} {name : Str} {r : V → List V → Hp → VK → Prop} {o e : Expr} {es : List Expr} {to : TE} {t : TA} {apos cpos : Pos} (h : X.K = K) (pa : PlainAttrs T) (slot : Slot T name id) (hty : typeOf (.builtin id) = pure (.type "method_descriptor")) (hm : MtR X id r) (ho : PE X o to) (ha : PA X (e :: es) t)
    (hbase : attributeBase o name X.env (eval o X.env) = eval o X.env := by rfl)
    (hfew : ((backTo cpos (starEach (e :: es) X.env)).all (fun x => !x.1) && (backToKw cpos (keywordEach [] X.env)).all (fun x => x.1.isSome)
      && decide ((e :: es).length + ([] : List Keyword).length + (if ([] : List Keyword).isEmpty then 0 else 1) < 30)) = true := by rfl)
    (hline : (apos.endLine == cpos.line) = true := by rfl) (hs : starEach (e :: es) X.env = (false, eval e X.env) :: starEach es X.env := by rfl) (hplain : (backTo cpos (starEach es X.env)).any (·.1) = false := by rfl) :
    PE X (.Call (.Attribute o name apos) (e :: es) [] cpos) (tBM K T r to t) := by
  subst h
  exact pe_bm pa slot hty hm ho ha hbase hfew hline hs hplain
theorem pi_listK {tg l : Expr} {tl : TE} (h : X.K = K) (hl : PE X l tl) : PI X tg l (iList K tl) := by subst h; exact pi_list hl
theorem pi_tupK {tg l : Expr} {tl : TE} (h : X.K = K) (hl : PE X l tl) : PI X tg l (iTup K tl) := by subst h; exact pi_tup hl
theorem pg_tupK {es : List Expr} {k : Nat} {t : TGs} {n : Nat} {pos : Pos} (h : X.K = K) (hc : X.calm = true) (hs : PGs X es t)
    (hn : (assignEach es X.env).length = n := by rfl) (hst : (assignEach es X.env).findIdx? (·.1) = none := by rfl) : PG X (.Tuple es k pos) (gTup K n t) := by subst h; exact pg_tup hc hs hn hst
/-- max(l, default=d) of whole numbers -/
def rMaxDef (K : PySem.W.Frag) : List V → List V → Hp → VK → Prop := fun xs zs H Q => ∃ (a : Addr) (ns : List Int) (d : Int), xs = [.ref a] ∧ zs = [.int d] ∧ SqL K H a (ns.map V.int) ∧ (ns = [] → Q (.int d) H) ∧ ∀ m, m ∈ ns → (∀ y, y ∈ ns → y ≤ m) → Q (.int m) H
theorem maxOf_facts : ∀ (ys : List Int) (y : Int), PySem.W.maxOf y ys ∈ y :: ys ∧ ∀ z, z ∈ y :: ys → z ≤ PySem.W.maxOf y ys
  | [], y => ⟨List.mem_cons_self, fun z m => by rw [List.mem_singleton.mp m]; exact Int.le_refl _⟩
  | x :: r, y => by
    have e : PySem.W.maxOf y (x :: r) = PySem.W.maxOf (if y < x then x else y) r := by
      show List.foldl _ (if decide (y < x) = true then x else y) r = _
      by_cases h : y < x
      · rw [if_pos (decide_eq_true h), if_pos h]
        rfl
      · rw [if_neg (fun q => h (of_decide_eq_true q)), if_neg h]
        rfl
    obtain ⟨h1, h2⟩ := maxOf_facts r (if y < x then x else y)
    rw [e]
    have h3 := h2 _ List.mem_cons_self
    generalize PySem.W.maxOf (if y < x then x else y) r = M at h1 h2 h3 ⊢
    refine ⟨?_, fun z m => ?_⟩
    · rcases List.mem_cons.mp h1 with q | q
      · rw [q]
        split
        · exact List.mem_cons_of_mem _ List.mem_cons_self
        · exact List.mem_cons_self
      · exact List.mem_cons_of_mem _ (List.mem_cons_of_mem _ q)
    · rcases List.mem_cons.mp m with q | m
      · rw [q]
        split at h3 <;> omega
      · rcases List.mem_cons.mp m with q | m
        · rw [q]
          split at h3 <;> omega
        · exact h2 z (List.mem_cons_of_mem _ m)
theorem reads_ints {h : Heap} : ∀ {ns : List Int} {us : List Value}, Vals (ns.map V.int) us → ∃ as, ReadsAll h us (ns.map PyData.int) as
  | [], _, r => by cases r; exact ⟨_, .nil⟩
  | n :: ns, _, r => by
    cases r with
    | cons r1 r2 =>
      obtain ⟨t, rfl⟩ := r1
      obtain ⟨as, q⟩ := reads_ints r2
      exact ⟨_, .cons (.int n t) q⟩
theorem cr_maxDef (hc : X.calm = true) (hu : X.A.units + 64 < cLine) : CallRK X (.builtin "max") [Str.ofString "default"] (rMaxDef X.K) := by
  intro pins s σ H xs zs us ws Q I rx rz h
  obtain ⟨a, ns, d, rfl, rfl, hs, h0, h1⟩ := h
  obtain ⟨its, rv, hl, _⟩ := I.list hs
  rw [Vals.ref1 rx]
  cases rz with
  | cons r1 r2 =>
    cases r2
    obtain ⟨t, rfl⟩ := r1
    refine PySem.W.max_list_datum_default (α := Int) (xs := ns) (I.ok.hd hc) hl.isList (reads_ints rv) (by show X.A.units + 1 + 0 < cLine; omega) (fun e h' tk hk => ⟨.int d, H, I.kept hk, ⟨_, rfl⟩, h0 e⟩) fun y ys i v h' tk e hi hh hk => ?_
    obtain ⟨as, hr⟩ := hh
    obtain ⟨f1, f2⟩ := maxOf_facts ys y
    have hv : ∃ t, v = Value.int (PySem.W.maxOf y ys) t := by
      generalize PySem.W.maxOf y ys = m at hr
      have hr' : Reads h' v (.int m) as := hr
      cases hr'
      exact ⟨_, rfl⟩
    obtain ⟨t', rfl⟩ := hv
    exact ⟨.int _, H, I.kept hk, ⟨_, rfl⟩, h1 _ (by rw [e]; exact f1) (by rw [e]; exact f2)⟩
theorem call_maxDefK (h : X.K = K) (hc : X.calm = true) (hu : X.A.units + 64 < cLine) : CallRK X (.builtin "max") [Str.ofString "default"] (rMaxDef K) := by subst h; exact cr_maxDef hc hu
theorem op_in_kdK {d : Addr} {es : Array DictEntry} {n : Nat} (h : X.K = K) (D : KDict X.K X.w d es n) : OpR X (compareOp .In) (fun x y H Q => ∃ (z : Str) (r : Option Value), x = .str z ∧ y = .ref d ∧ PySem.W.nsIn K d z = some r ∧ Q (.bl r.isSome) H) := by subst h; exact op_in_kd D
theorem pi_enumK {e : Expr} {ta : TA} {p pos tpos : Pos} {elts : List Expr} {kk : Nat} (h : X.K = K) (hg : Gl X "enumerate") (hm : X.mg "enumerate" = none) (ha : PA X [e] ta) (hs : starEach [e] X.env = [(false, eval e X.env)] := by rfl) :
    PI X (.Tuple elts kk tpos) (.Call (.Name "enumerate" p) [e] [] pos) (iEnum K ta) := by subst h; exact pi_enum hg hm ha hs
theorem mt_indexK (h : X.K = K) : MtR X "list.index" (rIndex K) := by subst h; exact mt_index
end
end Lz
namespace StX
open PySem L2
theorem pa_starK {X : Cx} {K : PySem.W.Frag} {e : Expr} {es : List Expr} {p : Pos} {te : TE} {t : TA} (h : X.K = K) (he : PE X e te) (hr : PA X es t) (hs : starEach (.Starred e p :: es) X.env = (true, eval e X.env) :: starEach es X.env := by rfl) : PA X (.Starred e p :: es) (tStar K te t) := by subst h; exact pa_star he hr hs
end StX

set_option Elab.async false
set_option linter.all false
set_option maxRecDepth 100000
set_option maxHeartbeats 4000000
namespace Lz
open PySem PySem.Spec PyProof.Rows L2
def topS (i : Nat) : Stmt := PySem.Challenge.pw_lazywebs_k11_faults_in_their_order.main.body.getD i (.Pass ⟨0, 0, 0, 0⟩)
/-- the built-ins are still there -/
structure Bt (mg : Str → Option Value) : Prop where
  len : mg "len" = none
  max : mg "max" = none
  min : mg "min" = none
  abs : mg "abs" = none
  range : mg "range" = none
  int : mg "int" = none
  list : mg "list" = none
  tuple : mg "tuple" = none
  sum : mg "sum" = none
  isinstance : mg "isinstance" = none

/-- a pen at p, its cells at a -/
def PenAt (H : Hp) (p a : Addr) : Prop := ∃ (ns : List Int) (t q : Int), H p = some (.lst [.ref a, .int t, .int q]) ∧ H a = some (.lst (ns.map V.int)) ∧ ns.length ≤ 63 ∧ 0 ≤ t ∧ 0 ≤ q
theorem PenAt.ne {H : Hp} {p a : Addr} (h : PenAt H p a) : a ≠ p := by
  obtain ⟨ns, t, q, h1, h2, _⟩ := h
  refine ne_of h2 h1 fun e => ?_
  have e' := HO.lst.inj e
  cases ns with
  | nil => cases e'
  | cons x r => cases e'
theorem PenAt.keep {S : List Addr} {H H' : Hp} {p a : Addr} (h : PenAt H p a) (k : Kp S H H') (hp : ¬ p ∈ S) (ha : ¬ a ∈ S) : PenAt H' p a := by
  obtain ⟨ns, t, q, h1, h2, h3⟩ := h
  exact ⟨ns, t, q, k.lst h1 hp, k.lst h2 ha, h3⟩
theorem PenAt.mut {H : Hp} {p a D : Addr} {o : HO} (h : PenAt H p a) (hp : D ≠ p) (ha : D ≠ a) : PenAt (upd H D o) p a := by
  obtain ⟨ns, t, q, h1, h2, h3⟩ := h
  exact ⟨ns, t, q, by rw [upd_ne hp.symm]; exact h1, by rw [upd_ne ha.symm]; exact h2, h3⟩
theorem PenAt.new {H : Hp} {p a D : Addr} {o : HO} (h : PenAt H p a) (hD : H D = none) : PenAt (upd H D o) p a := h.keep (S := []) (Kp.new hD) (fun h => nomatch h) (fun h => nomatch h)
theorem PenAt.apart {H : Hp} {p a D : Addr} (h : PenAt H p a) (hD : H D = none) : D ≠ p ∧ D ≠ a := by
  obtain ⟨ns, t, q, h1, h2, h3⟩ := h
  exact ⟨(ne_of_none h1 hD).symm, (ne_of_none h2 hD).symm⟩
theorem not1 {p D : Addr} (h : D ≠ p) : ¬ D ∈ [p] := fun m => h (List.mem_singleton.mp m)
theorem cal_mk {P : Program} {w : World} {K : PySem.W.Frag} {mg : Str → Option Value} {base : Heap} {k : Nat} {x : Str} {st : Stmt} {f : Addr} {fd : FuncData} {ps : List Str} {sp : Sp} (F : Fun K x x st f fd) (G : FnOk P w K mg base CX0 k f fd ps sp) (m : mg x = some (.ref f)) (b : Binds K fd ps []) : C8.Cal P w K mg base k x sp [] :=
  ⟨⟨f, fd, ps, [], G, m, F.kp, b, .nil⟩⟩
def spDraw (K : PySem.W.Frag) : Sp := fun vs H Q _ => ∃ (p a : Addr) (m : Int), vs = [.ref p, .int m] ∧ PenAt H p a ∧ 1 ≤ m ∧ m.natAbs < 2 ^ 250 ∧
  ∀ r H', Kp [p] H H' → PenAt H' p a → 0 ≤ r → r < m → Q (.int r) H'
section
variable {P : Program} {w : World} {K : PySem.W.Frag} {mg : Str → Option Value} {base : Heap} {f : Addr} {fd : FuncData}
abbrev sLDraw : Stmt := topS 36
theorem scLDraw : FnScope ["_law_pen_here", "_law_many", "_law_digit", "_law_at", "_law_cell", "_law_prime", "_law_number"] ["_law_pen_here", "_law_many"] (defScope sLDraw) := ⟨rfl, rfl, rfl, by decide +kernel, rfl, by decide +kernel, by decide +kernel⟩
theorem pen_put {H : Hp} {p a : Addr} {ns : List Int} {t q t' q' : Int} (h1 : H p = some (.lst [.ref a, .int t, .int q])) (h2 : H a = some (.lst (ns.map V.int))) (h3 : ns.length ≤ 63) (ht : 0 ≤ t') (hq : 0 ≤ q') : PenAt (upd H p (.lst [.ref a, .int t', .int q'])) p a := by
  have na : a ≠ p := ne_of h2 h1 fun e => by
    have e' := HO.lst.inj e
    cases ns with
    | nil => cases e'
    | cons x r => cases e'
  exact ⟨ns, t', q', upd_same, by rw [upd_ne na]; exact h2, h3, ht, hq⟩
theorem ok_draw (F : Fun K "_law_draw" "_law_draw" sLDraw f fd) (B : Bt mg) : FnOk P w K mg base CX0 1 f fd ["_law_pen_here", "_law_many"] (spDraw K) := by
  have ml := B.len
  have mmax := B.max
  have mabs := B.abs
  refine F.ok scLDraw (fun vs H Q E h => ?_) (fun cdv A outer s H vs Q E hr h => ?_)
  · obtain ⟨p, a, m, rfl, _⟩ := h
    rfl
  obtain ⟨p, a, m, rfl, hpen, hm1, hm2, k⟩ := h
  obtain ⟨ns, t, q, h1, h2, h3, ht, hq⟩ := id hpen
  have hpos : (0 : Int) < m := by omega
  have hw : CDivW q m := wide_div hpos hm2 (by decide) (by decide)
  refine ⟨_, (pss_cons (ps_if (pt_cmpR op_gt (pe_ix (ix_listK (K := K) rfl) (pv 0) pe_int (fun _ _ => rfl)) pe_int (nomark _)) (pss_cons (ps_set (i := 2) scLDraw.nd rfl (.inl rfl) (pe_op op_mod (pe_ix (ix_listK (K := K) rfl) (pv 0) pe_int (fun _ _ => rfl)) (pv 1)))
    (pss_cons (ps_asg (pe_op op_fdivW (pe_ix (ix_listK (K := K) rfl) (pv 0) pe_int (fun _ _ => rfl)) (pv 1)) (pg_sub (pv 0) pe_int set_list))
    (pss_one (ps_ret (pv 2))))) pss_nil)
    (pss_cons (ps_set (i := 3) scLDraw.nd rfl (.inl rfl) (pe_ix (ix_listK (K := K) rfl) (pv 0) pe_int (fun _ _ => rfl)))
    (pss_cons (ps_asg (pe_op op_add (pv 3) pe_int) (pg_sub (pv 0) pe_int set_list))
    (pss_cons (ps_set (i := 4) scLDraw.nd rfl (.inl rfl) (pe_ix (ix_listK (K := K) rfl) (pe_op op_cat (pe_ix (ix_listK (K := K) rfl) (pv 0) pe_int (fun _ _ => rfl)) (pe_lst (pa_cons pe_int pa_nil))) (pe_op op_mod (pv 3) (pe_callB (call_max2 rfl) (by rfl) mmax (by decide +kernel) (pa_cons pe_int (pa_cons (pe_callB (call_lenK (K := K) rfl) (by rfl) ml PySem.boot_len (pa_cons (pe_ix (ix_listK (K := K) rfl) (pv 0) pe_int (fun _ _ => rfl)) pa_nil)) pa_nil)))) (fun _ _ => rfl)))
    (C8.pss_cut (ps_if (PW.pt (pw_and (pt_cmpR op_lt (pv 3) (pe_callB (call_lenK (K := K) rfl) (by rfl) ml PySem.boot_len (pa_cons (pe_ix (ix_listK (K := K) rfl) (pv 0) pe_int (fun _ _ => rfl)) pa_nil)) (nomark _)) (pw_and1 (pt_cmpR op_ge (pe_callB call_abs (by rfl) mabs (by decide +kernel) (pa_cons (pv 4) pa_nil)) (pe_op op_pow pe_int pe_int) (nomark _))))) (pss_cons (ps_asg (pe_op op_fdivW (pe_callB call_abs (by rfl) mabs (by decide +kernel) (pa_cons (pv 4) pa_nil)) (pv 1)) (pg_sub (pv 0) pe_int set_list))
    (pss_one (ps_ret (pe_op op_mod (pe_callB call_abs (by rfl) mabs (by decide +kernel) (pa_cons (pv 4) pa_nil)) (pv 1))))) pss_nil)
    (pss_cons (ps_set (i := 5) scLDraw.nd rfl (.inl rfl) (pe_ix (ix_listK (K := K) rfl) (pe_lst (pa_cons pe_int (pa_cons pe_int (pa_cons pe_int (pa_cons pe_int (pa_cons pe_int (pa_cons pe_int (pa_cons pe_int pa_nil)))))))) (pe_op op_mod (pv 3) pe_int) (fun _ _ => rfl)))
    (pss_cons (ps_set (i := 6) scLDraw.nd rfl (.inl rfl) (pe_op op_mod (pe_op op_mul (pe_op op_add (pe_op op_add (pe_op op_mod (pv 4) pe_int) (pe_op op_mul pe_int (pv 3))) pe_int) pe_int) (pv 5)))
    (pss_cons (ps_set (i := 6) scLDraw.nd rfl (.inl rfl) (pe_op op_mod (pe_op op_add (pe_op op_add (pe_op op_mul (pv 6) (pv 6)) (pe_op op_mul pe_int (pv 6))) (pv 3)) pe_int))
    (pss_one (ps_ret (pe_op op_mod (pe_op op_fdiv (pe_op op_mod (pe_op op_mul (pv 6) pe_int) pe_int) pe_int) (pv 1)))))))))))), ?_⟩
  refine ⟨_, rfl, p, _, _, _, rfl, rfl, SqL.of h1, at_of (j := 2) rfl rfl, _, _, rfl, rfl, _, rfl, ?_⟩
  refine ite2 (fun c => ?_) (fun c => ?_)
  · refine ⟨_, rfl, p, _, _, _, rfl, rfl, SqL.of h1, at_of (j := 2) rfl rfl, _, rfl, _, _, rfl, rfl, hpos, ?_⟩
    refine ⟨_, rfl, p, _, _, _, rfl, rfl, SqL.of h1, at_of (j := 2) rfl rfl, _, rfl, _, _, rfl, rfl, hw, ?_⟩
    refine ⟨_, rfl, p, _, _, 2, rfl, rfl, h1, rfl, _, rfl, ?_⟩
    exact k _ _ (Kp.put h1 List.mem_cons_self) (pen_put h1 h2 h3 ht (Int.ediv_nonneg hq (by omega))) (Int.emod_nonneg _ (by omega)) (Int.emod_lt_of_pos _ hpos)
  · have na : a ≠ p := hpen.ne
    -- at = pen[1]; pen[1] = at + 1
    refine ⟨_, rfl, p, _, _, _, rfl, rfl, SqL.of h1, at_of (j := 1) rfl rfl, ?_⟩
    refine ⟨_, rfl, _, _, rfl, rfl, _, rfl, p, _, _, 1, rfl, rfl, h1, rfl, ?_⟩
    have hp1 : (upd H p (.lst [.ref a, .int (t + 1), .int q])) p = some (.lst [.ref a, .int (t + 1), .int q]) := upd_same
    have ha1 : (upd H p (.lst [.ref a, .int (t + 1), .int q])) a = some (.lst (ns.map V.int)) := by rw [upd_ne na]; exact h2
    have k1 : Kp [p] H (upd H p (.lst [.ref a, .int (t + 1), .int q])) := Kp.put h1 List.mem_cons_self
    show tSeq _ _ _ _ (upd H p (.lst [.ref a, .int (t + 1), .int q]))
    generalize upd H p (.lst [.ref a, .int (t + 1), .int q]) = H1 at hp1 ha1 k1
    -- cell
    refine ⟨_, rfl, p, _, _, _, rfl, rfl, SqL.of hp1, at_of (j := 0) rfl rfl, (by show 1 ≤ sizeLine; decide), fun l hl => ?_⟩
    have nla : a ≠ l := ne_of_none ha1 hl
    refine ⟨a, l, _, _, rfl, rfl, by rw [upd_ne nla]; exact ha1, upd_same, (by rw [List.length_map, List.length_singleton]; exact Nat.le_of_lt (small1000 (by omega))), fun l2 hl2 => ?_⟩
    have k2 : Kp [p] H1 (upd (upd H1 l (.lst [.int 7])) l2 (.lst (ns.map V.int ++ [.int 7]))) := (Kp.new hl).trans (Kp.new hl2)
    have hp2 : (upd (upd H1 l (.lst [.int 7])) l2 (.lst (ns.map V.int ++ [.int 7]))) p = some (.lst [.ref a, .int (t + 1), .int q]) := by
      have e1 : p ≠ l := ne_of_none hp1 hl
      have e2 : (upd H1 l (.lst [.int 7])) p = some (.lst [.ref a, .int (t + 1), .int q]) := by rw [upd_ne e1]; exact hp1
      rw [upd_ne (ne_of_none e2 hl2)]
      exact e2
    have ha2 : (upd (upd H1 l (.lst [.int 7])) l2 (.lst (ns.map V.int ++ [.int 7]))) a = some (.lst (ns.map V.int)) := by
      have e2 : (upd H1 l (.lst [.int 7])) a = some (.lst (ns.map V.int)) := by rw [upd_ne nla]; exact ha1
      rw [upd_ne (ne_of_none e2 hl2)]
      exact e2
    have hl3 : (upd (upd H1 l (.lst [.int 7])) l2 (.lst (ns.map V.int ++ [.int 7]))) l2 = some (.lst (ns.map V.int ++ [.int 7])) := upd_same
    show tOp _ _ _ _ (upd (upd H1 l (.lst [.int 7])) l2 (.lst (ns.map V.int ++ [.int 7]))) _
    generalize upd (upd H1 l (.lst [.int 7])) l2 (.lst (ns.map V.int ++ [.int 7])) = H2 at hp2 ha2 hl3 k2
    have hmx : (if (((ns.map V.int).length : Nat) : Int) > 1 then (((ns.map V.int).length : Nat) : Int) else 1) = max 1 (ns.length : Int) := by
      rw [List.length_map]
      omega
    refine ⟨_, rfl, _, rfl, p, _, _, _, rfl, rfl, SqL.of hp2, at_of (j := 0) rfl rfl, a, _, rfl, .inl (SqL.of ha2), _, _, rfl, ?_⟩
    refine ⟨_, _, rfl, rfl, (by show (0 : Int) < (if (((ns.map V.int).length : Nat) : Int) > 1 then _ else 1); rw [hmx]; omega), ?_⟩
    show rIxL _ _ (V.int (t % (if (((ns.map V.int).length : Nat) : Int) > 1 then _ else 1))) _ _
    rw [hmx]
    have hj0 : 0 ≤ t % max 1 (ns.length : Int) := Int.emod_nonneg _ (by omega)
    have hj1 : t % max 1 (ns.length : Int) < max 1 (ns.length : Int) := Int.emod_lt_of_pos _ (by omega)
    obtain ⟨cell, hcell⟩ : ∃ z : Int, (ns ++ [7])[(t % max 1 (ns.length : Int)).toNat]? = some z := by
      have : (t % max 1 (ns.length : Int)).toNat < (ns ++ [7]).length := by
        rw [List.length_append, List.length_singleton]
        omega
      exact ⟨_, List.getElem?_eq_getElem this⟩
    have hcell' : (ns.map V.int ++ [V.int 7])[(t % max 1 (ns.length : Int)).toNat]? = some (.int cell) := by
      have e : ns.map V.int ++ [V.int 7] = (ns ++ [7]).map V.int := by rw [List.map_append]; rfl
      rw [e, List.getElem?_map, hcell]
      rfl
    refine ⟨l2, _, _, _, rfl, rfl, SqL.of hl3, at_of (j := (t % max 1 (ns.length : Int)).toNat) (by omega) hcell', ?_⟩
    have pen2 : PenAt H2 p a := ⟨ns, t + 1, q, hp2, ha2, h3, by omega, hq⟩
    have kk : Kp [p] H H2 := k1.trans k2
    -- the great cells
    refine ⟨fun σ' H' => σ' = [some (.ref p), some (.int m), none, some (.int t), some (.int cell), none, none] ∧ H' = H2, ?_, ?_⟩
    · refine ⟨_, rfl, _, rfl, p, _, _, _, rfl, rfl, SqL.of hp2, at_of (j := 0) rfl rfl, a, _, rfl, .inl (SqL.of ha2), _, _, rfl, rfl, _, rfl, ?_⟩
      refine ite2 (fun c1 => ?_) (fun c1 => ⟨rfl, rfl⟩)
      refine ⟨_, rfl, _, rfl, _, _, rfl, rfl, ⟨by decide, by decide, by decide⟩, _, _, rfl, rfl, _, rfl, ?_⟩
      refine ite2 (fun c2 => ?_) (fun c2 => ⟨rfl, rfl⟩)
      have hab : 0 ≤ (if cell < 0 then -cell else cell) := by split <;> omega
      refine ⟨_, rfl, _, rfl, _, rfl, _, _, rfl, rfl, wide_div hpos hm2 (by decide) (by decide), ?_⟩
      refine ⟨_, rfl, p, _, _, 2, rfl, rfl, hp2, rfl, _, rfl, _, rfl, _, rfl, _, _, rfl, rfl, hpos, ?_⟩
      exact k _ _ (kk.trans (Kp.put hp2 List.mem_cons_self)) (pen_put hp2 ha2 h3 (by omega) (Int.ediv_nonneg hab (by omega))) (Int.emod_nonneg _ (by omega)) (Int.emod_lt_of_pos _ hpos)
    · rintro _ H2 ⟨rfl, rfl⟩
      -- a prime
      refine ⟨by show 7 ≤ sizeLine; decide, fun l3 hl3' => ?_⟩
      have k3 : Kp [p] H2 (upd H2 l3 (.lst [.int 2147483647, .int 2147483629, .int 2147483587, .int 2147483579, .int 2147483563, .int 2147483549, .int 2147483543])) := Kp.new hl3'
      have pen3 : PenAt (upd H2 l3 (.lst [.int 2147483647, .int 2147483629, .int 2147483587, .int 2147483579, .int 2147483563, .int 2147483549, .int 2147483543])) p a := ⟨ns, t + 1, q, by rw [upd_ne (ne_of_none hp2 hl3')]; exact hp2, by rw [upd_ne (ne_of_none ha2 hl3')]; exact ha2, h3, by omega, hq⟩
      obtain ⟨pr, hpr, hpr0, hpr1⟩ : ∃ z : Int, ([.int 2147483647, .int 2147483629, .int 2147483587, .int 2147483579, .int 2147483563, .int 2147483549, .int 2147483543] : List V)[(t % 7).toNat]? = some (.int z) ∧ 0 < z ∧ z < 2 ^ 32 := by
        have h0 : (t % 7).toNat < 7 := by omega
        generalize (t % 7).toNat = j at h0
        match j, h0 with
        | 0, _ => exact ⟨_, rfl, by decide, by decide⟩
        | 1, _ => exact ⟨_, rfl, by decide, by decide⟩
        | 2, _ => exact ⟨_, rfl, by decide, by decide⟩
        | 3, _ => exact ⟨_, rfl, by decide, by decide⟩
        | 4, _ => exact ⟨_, rfl, by decide, by decide⟩
        | 5, _ => exact ⟨_, rfl, by decide, by decide⟩
        | 6, _ => exact ⟨_, rfl, by decide, by decide⟩
      refine ⟨_, rfl, _, _, rfl, rfl, (by show (0 : Int) < 7; decide), l3, _, _, _, rfl, rfl, SqL.of upd_same, at_of (j := (t % 7).toNat) (by show t % 7 = _; omega) hpr, ?_⟩
      -- the number
      refine ⟨_, rfl, _, _, rfl, rfl, (by show (0 : Int) < 2147483497; decide), _, rfl, _, _, rfl, rfl, .inl ⟨by decide, by decide⟩, _, _, rfl, rfl, _, _, rfl, rfl, _, _, rfl, rfl, .inr ⟨by decide, by decide⟩, _, rfl, _, _, rfl, rfl, hpr0, ?_⟩
      show tSeq _ _ _ [some (.ref p), some (.int m), none, some (.int t), some (.int cell), some (.int pr), some (.int ((cell % 2147483497 + 69621 * t + 13) * 48271 % pr))] _
      have n0 : 0 ≤ (cell % 2147483497 + 69621 * t + 13) * 48271 % pr := Int.emod_nonneg _ (by omega)
      have n1 : (cell % 2147483497 + 69621 * t + 13) * 48271 % pr < pr := Int.emod_lt_of_pos _ hpr0
      generalize (cell % 2147483497 + 69621 * t + 13) * 48271 % pr = nu at n0 n1
      refine ⟨_, rfl, _, rfl, _, _, rfl, rfl, .inl ⟨by omega, by omega⟩, _, rfl, _, _, rfl, rfl, .inl ⟨by decide, by decide⟩, _, _, rfl, rfl, _, rfl, _, _, rfl, rfl, _, _, rfl, rfl, (by show (0 : Int) < 2147483489; decide), ?_⟩
      show tSeq _ _ _ [some (.ref p), some (.int m), none, some (.int t), some (.int cell), some (.int pr), some (.int ((nu * nu + 40692 * nu + t) % 2147483489))] _
      generalize (nu * nu + 40692 * nu + t) % 2147483489 = nv
      refine ⟨_, rfl, _, _, rfl, rfl, .inr ⟨by decide, by decide⟩, _, _, rfl, rfl, (by show (0 : Int) < 2147483477; decide), ?_⟩
      have v0 : 0 ≤ nv * 16807 % 2147483477 := Int.emod_nonneg _ (by omega)
      generalize nv * 16807 % 2147483477 = nw at v0
      have kl := kk.trans k3
      generalize upd H2 l3 _ = H3 at pen3 kl ⊢
      refine ⟨_, _, rfl, rfl, ⟨by decide, by decide⟩, _, rfl, _, _, rfl, rfl, hpos, ?_⟩
      exact k _ _ kl pen3 (Int.emod_nonneg _ (by omega)) (Int.emod_lt_of_pos _ hpos)
end
end Lz

set_option Elab.async false
set_option linter.all false
set_option maxRecDepth 100000
set_option maxHeartbeats 8000000
namespace Lz
open PySem PySem.Spec PyProof.Rows L2
/-- the kinds that PARTS_OF has -/
structure PO (K : PySem.W.Frag) (pd : Addr) : Prop where
  op : ∀ k n, (k, n) ∈ kinds → ∃ u, PySem.W.nsIn K pd k = some (some u)
  num : PySem.W.nsIn K pd "number" = some none
  nam : PySem.W.nsIn K pd "name" = some none
  fn : PySem.W.nsIn K pd "fun" = some none
def leafKind (k : Str) : Prop := k = "number" ∨ k = "name" ∨ k = "fun"
/-- a part as a tuple -/
theorem shape_of {K : PySem.W.Frag} {H : Hp} {v : V} {t : Lz.P} (h : Dp K H v t.data) (ok : t.ok) : ∃ a, v = .ref a ∧
    ((∃ k x, t.inn = [] ∧ leafKind k ∧ SqT K H a [.str k, x]) ∨ (∃ k vs as, t = .op k as ∧ SqT K H a (.str k :: vs) ∧ DpAll K H vs (P.datas as) ∧ (k, as.length) ∈ kinds) ∨
      ∃ nm as b r rs vb, t = .lt nm as b ∧ SqT K H a [.str "let", .ref r, vb] ∧ SqT K H r rs ∧ DpAll K H rs (List.zipWith rowD nm (P.datas as)) ∧ Dp K H vb b.data ∧ nm.length = as.length) := by
  cases t with
  | num i =>
    obtain ⟨a, xs, rfl, ht, hx⟩ := Dp.tup_of (ds := [.str "number", .int i]) h
    refine ⟨a, rfl, .inl ⟨"number", .int i, rfl, .inl rfl, ?_⟩⟩
    cases hx with
    | cons h1 h2 =>
      cases h1
      cases h2 with
      | cons h3 h4 =>
        cases h3
        cases h4
        exact ht
  | nam x =>
    obtain ⟨a, xs, rfl, ht, hx⟩ := Dp.tup_of (ds := [.str "name", .str x]) h
    refine ⟨a, rfl, .inl ⟨"name", .str x, rfl, .inr (.inl rfl), ?_⟩⟩
    cases hx with
    | cons h1 h2 =>
      cases h1
      cases h2 with
      | cons h3 h4 =>
        cases h3
        cases h4
        exact ht
  | fn x =>
    obtain ⟨a, xs, rfl, ht, hx⟩ := Dp.tup_of (ds := [.str "fun", .str x]) h
    refine ⟨a, rfl, .inl ⟨"fun", .str x, rfl, .inr (.inr rfl), ?_⟩⟩
    cases hx with
    | cons h1 h2 =>
      cases h1
      cases h2 with
      | cons h3 h4 =>
        cases h3
        cases h4
        exact ht
  | op k as =>
    obtain ⟨a, xs, rfl, ht, hx⟩ := Dp.tup_of (ds := .str k :: P.datas as) h
    cases hx with
    | cons h1 h2 =>
      cases h1
      exact ⟨a, rfl, .inr (.inl ⟨k, _, as, rfl, ht, h2, (show (k, as.length) ∈ kinds ∧ P.oks as from ok).1⟩)⟩
  | lt nm as b =>
    obtain ⟨a, xs, rfl, ht, hx⟩ := Dp.tup_of (ds := [.str "let", .tuple (List.zipWith rowD nm (P.datas as)), b.data]) h
    cases hx with
    | cons h1 h2 =>
      cases h1
      cases h2 with
      | cons h3 h4 =>
        obtain ⟨r, rs, rfl, hr, hrs⟩ := h3.tup_of
        cases h4 with
        | cons h5 h6 =>
          cases h6
          exact ⟨a, rfl, .inr (.inr ⟨nm, as, b, r, rs, _, rfl, ht, hr, hrs, h5, ok.1⟩)⟩
def spInn (K : PySem.W.Frag) : Sp := fun vs H Q _ => ∃ (v : V) (t : Lz.P), vs = [v] ∧ Dp K H v t.data ∧ t.ok ∧ t.many ≤ 1000 ∧ ∀ (l : Addr) (xs : List V) (H' : Hp), Kp [] H H' → H l = none → H' l = some (.lst xs) → DpAll K H' xs (P.datas t.inn) → Q (.ref l) H'
theorem flat_str (x : Str) : flatV (.str x) = true := rfl
theorem cut_tl (x : V) (xs : List V) : cutV (x :: xs) (some 1) none = xs := by
  unfold cutV
  rw [HT.sIx_none, show HT.sIx (x :: xs).length 0 (some 1) = min 1 (x :: xs).length from HT.sIx_nat _ _ 1]
  have e : min 1 (x :: xs).length = 1 := by rw [List.length_cons]; omega
  rw [e]
  exact List.take_of_length_le (by show xs.length ≤ (x :: xs).length - 1; rw [List.length_cons]; omega)
theorem not_whole (x : V) (xs : List V) : ¬ (HT.sIx (x :: xs).length 0 (some 1) = 0 ∧ HT.sIx (x :: xs).length (x :: xs).length none = (x :: xs).length) := fun h => by
  have e := h.1
  rw [show HT.sIx (x :: xs).length 0 (some 1) = min 1 (x :: xs).length from HT.sIx_nat _ _ 1, List.length_cons] at e
  omega
/-- the second things of rows are the parts -/
theorem row_at {K : PySem.W.Frag} {H : Hp} {rs : List V} {nm : List Str} {as : List Lz.P} {i : Nat} {v : V} (h : DpAll K H rs (List.zipWith rowD nm (P.datas as))) (hi : rs[i]? = some v) : ∃ (t : Addr) (x : Str) (u : V) (d : Lz.P), v = .ref t ∧ SqT K H t [.str x, u] ∧ as[i]? = some d ∧ Dp K H u d.data := by
  obtain ⟨e, he, hd⟩ := h.at hi
  rw [List.getElem?_zipWith] at he
  cases hx : nm[i]? with
  | none => rw [hx] at he; cases he
  | some x =>
    rw [hx, datas_map, List.getElem?_map] at he
    cases ha : as[i]? with
    | none => rw [ha] at he; cases he
    | some d =>
      rw [ha] at he
      obtain rfl : rowD x d.data = e := Option.some.inj he
      obtain ⟨t, xs, rfl, ht, hxs⟩ := Dp.tup_of (ds := [.str x, d.data]) hd
      cases hxs with
      | cons h1 h2 =>
        cases h1
        cases h2 with
        | cons h3 h4 =>
          cases h4
          exact ⟨t, x, _, d, rfl, ht, rfl, h3⟩
section
variable {P : Program} {w : World} {K : PySem.W.Frag} {mg : Str → Option Value} {base : Heap} {f : Addr} {fd : FuncData}
abbrev sWithin : Stmt := topS 6
theorem scWithin : FnScope ["part", "kind", "row"] ["part"] (defScope sWithin) := ⟨rfl, rfl, rfl, by decide +kernel, rfl, by decide +kernel, by decide +kernel⟩
theorem ok_within {pd : Addr} {es : Array DictEntry} {n : Nat} (F : Fun K "within" "within" sWithin f fd) (B : Bt mg) (mPO : mg "PARTS_OF" = some (.ref pd)) (DK : KDict K w pd es n) (O : PO K pd) : FnOk P w K mg base CX0 1 f fd ["part"] (spInn K) := by
  have mlist := B.list
  refine F.ok scWithin (fun vs H Q E h => ?_) (fun cdv A outer s H vs Q E hr h => ?_)
  · obtain ⟨v, t, rfl, _⟩ := h
    rfl
  obtain ⟨v, t, rfl, hd, hok, hmany, q⟩ := h
  refine ⟨_, (pss_cons (ps_set (i := 1) scWithin.nd rfl (.inl rfl) (pe_ix (ix_tupK (K := K) rfl) (pv 0) pe_int (fun _ _ => rfl)))
    (pss_cons (ps_if (pt_cmpR op_eq (pv 1) pe_str (nomark _)) (pss_one (ps_ret (pe_op op_cat (pe_lc (own := [("row", 2)]) rfl scWithin.nd (pi_tupK (K := K) rfl (pe_ix (ix_tupK (K := K) rfl) (pv 0) pe_int (fun _ _ => rfl))) (blkOk_by (N := ["part", "kind", "row"]) (sc := defScope sWithin) (by decide +kernel)) (fun _ _ _ _ _ => (pg_name (i := 2) scWithin.nd rfl (.inl rfl))) (fun _ _ _ _ _ => pts_nil) (fun _ _ _ _ _ => (pe_ix (ix_tupK (K := K) rfl) (pv 2) pe_int (fun _ _ => rfl)))) (pe_lst (pa_cons (pe_ix (ix_tupK (K := K) rfl) (pv 0) pe_int (fun _ _ => rfl)) pa_nil))))) pss_nil)
    (pss_cons (ps_if (pt_cmpR (op_in_kdK (K := K) rfl DK) (pv 1) (pe_glob (v := .ref pd) (by rfl) mPO rfl) rfl) (pss_one (ps_ret (pe_callTy (call_listK (K := K) rfl) (by rfl) mlist (by decide +kernel) (pa_cons (pe_slice (sl_tupAK (K := K) rfl) (pv 0) (po_some pe_int) po_none) pa_nil)))) pss_nil)
    (pss_one (ps_ret (pe_lst pa_nil)))))), ?_⟩
  obtain ⟨a, rfl, h | h | h⟩ := shape_of hd hok
  · obtain ⟨k, x, hi, hk, ht⟩ := h
    refine ⟨_, rfl, a, _, _, _, rfl, rfl, ht, at_of (j := 0) rfl rfl, ?_⟩
    refine ⟨_, rfl, rfl, _, rfl, ?_⟩
    refine ite2 (fun c => ?_) (fun _ => ?_)
    · have e : k = "let" := V.str.inj (of_decide_eq_true c)
      rcases hk with rfl | rfl | rfl <;> exact absurd e (by decide +kernel)
    have hn : PySem.W.nsIn K pd k = some none := by
      rcases hk with rfl | rfl | rfl
      · exact O.num
      · exact O.nam
      · exact O.fn
    refine ⟨_, rfl, k, _, rfl, rfl, hn, _, rfl, ?_⟩
    refine ⟨Nat.zero_le _, fun l hl => ?_⟩
    exact q l [] _ (Kp.new hl) hl upd_same (by rw [hi]; exact .nil)
  · obtain ⟨k, xs, as, rfl, ht, hx, hk⟩ := h
    have hp := kind_plain hk
    refine ⟨_, rfl, a, _, _, _, rfl, rfl, ht, at_of (j := 0) rfl rfl, ?_⟩
    refine ⟨_, rfl, rfl, _, rfl, ?_⟩
    refine ite2 (fun c => absurd (V.str.inj (of_decide_eq_true c)) hp.1) (fun _ => ?_)
    obtain ⟨u, hu⟩ := O.op k _ hk
    refine ⟨_, rfl, k, _, rfl, rfl, hu, _, rfl, ?_⟩
    refine ⟨_, rfl, _, rfl, a, _, rfl, ht, fun z => absurd z (not_whole _ _), fun _ t2 ht2 => ?_⟩
    refine ⟨t2, _, rfl, .inr (.inl (.inl upd_same)), fun l hl => ?_⟩
    rw [cut_tl]
    have k1 : Kp [] H (upd H t2 (.tup xs)) := Kp.new ht2
    have k2 : Kp [] (upd H t2 (.tup xs)) (upd (upd H t2 (.tup xs)) l (.lst xs)) := Kp.new (by rw [cut_tl] at hl; exact hl)
    exact q l xs _ (k1.trans k2) (k1.free (by rw [cut_tl] at hl; exact hl) (fun m => nomatch m)) upd_same (Dp.keepAll (k1.trans k2) _ _ (datas_fz _) hx)
  · obtain ⟨nm, as, b, r, rs, vb, rfl, ht, hrt, hrs, hb, hl⟩ := h
    refine ⟨_, rfl, a, _, _, _, rfl, rfl, ht, at_of (j := 0) rfl rfl, ?_⟩
    refine ⟨_, rfl, rfl, _, rfl, ?_⟩
    refine ite2 (fun _ => ?_) (fun c => absurd (decide_eq_true rfl) c)
    refine ⟨_, rfl, a, _, _, _, rfl, rfl, ht, at_of (j := 1) rfl rfl, r, rfl, ⟨_, hrt⟩, fun D hD => ?_⟩
    have hrl : rs.length = as.length := by rw [hrs.length, List.length_zipWith, datas_len]; omega
    have hlen : as.length ≤ 999 := by
      have h1 := len_manys as
      have h2 : 1 + (Lz.P.manys as + b.many) ≤ 1000 := hmany
      omega
    refine lc_tup (K := K) (a := r) (xs := rs) (fun i H' => Kp [] H H' ∧ ∃ xs, H' D = some (.lst xs) ∧ DpAll K H' xs (Lz.P.datas (as.take i)))
      ⟨Kp.new hD, [], upd_same, .nil⟩ (fun i H' _ ⟨k, _⟩ => k.sqT hrt) ?_ ?_
    · rintro i x H1 hi ⟨k1, xs, hxs, hdx⟩
      obtain ⟨t, nx, u, d, rfl, htt, had, hud⟩ := row_at (Dp.keepAll k1 _ _ rows_fz hrs) hi
      refine ⟨rfl, ?_⟩
      refine ⟨_, rfl, t, _, _, _, rfl, rfl, htt, at_of (j := 1) rfl rfl, xs, hxs, ?_, k1.mut hD, xs ++ [u], upd_same, ?_⟩
      · rw [hdx.length, datas_len, List.length_take]
        exact small1000 (by omega)
      · have kput : Kp [D] H1 (upd H1 D (.lst (xs ++ [u]))) := Kp.put hxs List.mem_cons_self
        rw [datas_map, List.take_add_one, had, List.map_append, ← datas_map]
        exact (Dp.keepAll kput _ _ (datas_fz _) hdx).append (.one (Dp.keep kput _ _ (data_fz _) hud))
    · rintro H1 ⟨k1, xs, hxs, hdx⟩
      rw [hrl, List.take_length] at hdx
      refine ⟨_, rfl, a, _, _, _, rfl, rfl, k1.sqT ht, at_of (j := 2) rfl rfl, (by show 1 ≤ sizeLine; decide), fun l2 hl2 => ?_⟩
      have k2 : Kp [] H1 (upd H1 l2 (.lst [vb])) := Kp.new hl2
      have hx2 : (upd H1 l2 (.lst [vb])) D = some (.lst xs) := by rw [upd_ne (ne_of_none hxs hl2)]; exact hxs
      refine ⟨D, l2, _, _, rfl, rfl, hx2, upd_same, ?_, fun l hl => ?_⟩
      · rw [hdx.length, datas_len, List.length_singleton]
        exact Nat.le_of_lt (small1000 (by omega))
      · have k3 := k2.trans (Kp.new (S := []) (o := .lst (xs ++ [vb])) hl)
        have e : Lz.P.datas (Lz.P.lt nm as b).inn = Lz.P.datas as ++ [b.data] := by
          show Lz.P.datas (as ++ [b]) = _
          rw [datas_map, datas_map, List.map_append]
          rfl
        refine q l _ _ (k1.trans k3) ((k1.trans k2).free hl (fun m => nomatch m)) upd_same ?_
        rw [e]
        exact (Dp.keepAll k3 _ _ (datas_fz _) hdx).append (.one (Dp.keep (k1.trans k3) _ _ (data_fz _) hb))
end
end Lz

set_option Elab.async false
set_option linter.all false
set_option maxRecDepth 100000
set_option maxHeartbeats 4000000
/-! Bodies and programs as they are drawn: plain Lean. -/
namespace Lz
open PySem
/-- one thing handed on: the name itself, or what was drawn for it -/
def argOf (t : Str) (o a : P) : Prop := a = .nam t ∨ a = o
inductive Args : List Str → List P → List P → Prop
  | nil : Args [] [] []
  | snoc {ts : List Str} {os as : List P} {t : Str} {o a : P} : Args ts os as → argOf t o a → Args (ts ++ [t]) (os ++ [o]) (as ++ [a])
theorem Args.len {ts : List Str} {os as : List P} (h : Args ts os as) : as.length = ts.length ∧ os.length = ts.length := by
  induction h with
  | nil => exact ⟨rfl, rfl⟩
  | snoc _ _ ih =>
    rw [List.length_append, List.length_append, List.length_append, ih.1, ih.2]
    exact ⟨rfl, rfl⟩
theorem Args.many {ts : List Str} {os as : List P} (h : Args ts os as) : P.manys as ≤ P.manys os := by
  induction h with
  | nil => exact Nat.le_refl _
  | @snoc ts os as t o a _ ha ih =>
    rw [manys_append, manys_append]
    have h1 := many_pos o
    have e1 : P.manys [a] = a.many + 0 := rfl
    have e2 : P.manys [o] = o.many + 0 := rfl
    rcases ha with rfl | rfl
    · have : (P.nam t).many = 1 := rfl
      omega
    · omega
theorem Args.deep {ts : List Str} {os as : List P} (h : Args ts os as) : P.deeps as ≤ max 1 (P.deeps os) := by
  induction h with
  | nil => exact Nat.zero_le _
  | @snoc ts os as t o a _ ha ih =>
    rw [deeps_append, deeps_append]
    have e1 : P.deeps [a] = max a.deep 0 := rfl
    have e2 : P.deeps [o] = max o.deep 0 := rfl
    rcases ha with rfl | rfl
    · have : (P.nam t).deep = 1 := rfl
      omega
    · omega
theorem Args.ok {ts : List Str} {os as : List P} (h : Args ts os as) : (∀ x, x ∈ ts → nmOk x) → (∀ o, o ∈ os → o.ok) → ∀ a, a ∈ as → a.ok := by
  induction h with
  | nil => exact fun _ _ _ m => nomatch m
  | snoc _ ha ih =>
    intro h1 h2 b m
    rcases List.mem_append.mp m with m | m
    · exact ih (fun x hx => h1 x (List.mem_append_left _ hx)) (fun o ho => h2 o (List.mem_append_left _ ho)) b m
    · rw [List.mem_singleton.mp m]
      rcases ha with rfl | rfl
      · exact h1 _ (List.mem_append_right _ List.mem_cons_self)
      · exact h2 _ (List.mem_append_right _ List.mem_cons_self)
/-- the call of a loop's own function -/
def again (me t0 : Str) (as : List P) : P := gives (.fn me) (.op "less" [.nam t0, .num 1] :: as)
/-- what stands where the count is not nought -/
inductive More (one call : P) : P → Prop
  | call : More one call call
  | plus : More one call (.op "plus" [one, call])
  | pair : More one call (.op "pair" [one, call])
  | turn : More one call (.op "plus" [call, one])
/-- a body that calls itself -/
structure Lp (W : List (Str × Int)) (me t0 : Str) (ts : List Str) (n : Int) (ss : List Str) (d : P) : Prop where
  ex : ∃ (os as : List P) (one more last : P) (n1 n2 n3 : Int) (s1 s2 s3 : List Str), Dr W (t0 :: ts) 2 n ss n1 s1 os ∧ Args ts os as ∧ Dr W (t0 :: ts) 3 n1 s1 n2 s2 [one] ∧ More one (again me t0 as) more ∧ Dr W (t0 :: ts) 3 n2 s2 n3 s3 [last] ∧ d = .op "when" [.nam t0, more, last]
/-- a body -/
inductive Bd (W : List (Str × Int)) (me : Str) (things ss : List Str) : P → Prop
  | part {dp n n' : Int} {ss' : List Str} {d : P} : 0 ≤ dp → dp ≤ 11 → 0 ≤ n → n ≤ 59 → Dr W things dp n ss n' ss' [d] → Bd W me things ss d
  | loop {t0 : Str} {ts : List Str} {n : Int} {d : P} : me ≠ "" → things = t0 :: ts → 0 ≤ n → n ≤ 40 → Lp W me t0 ts n ss d → Bd W me things ss d
  | first {f : Str} {w : Int} {r : List (Str × Int)} {ks : List Int} : me = "" → W = (f, w) :: r → (ks.length : Int) = w → (∀ k, k ∈ ks → 0 ≤ k ∧ k < 8) → Bd W me things ss (gives (.fn f) (ks.map .num))
theorem kind_when : (("when" : Str), 3) ∈ kinds := by decide +kernel
theorem kind_less : (("less" : Str), 2) ∈ kinds := by decide +kernel
theorem kind_plus : (("plus" : Str), 2) ∈ kinds := by decide +kernel
theorem kind_pair : (("pair" : Str), 2) ∈ kinds := by decide +kernel
theorem kind_give : (("give" : Str), 2) ∈ kinds := by decide +kernel
theorem Dr.one_many {W : List (Str × Int)} {sc ss ss' : List Str} {dp n n' : Int} {d : P} (h : Dr W sc dp n ss n' ss' [d]) : (d.many : Int) = 1 + (n - n') := by
  have := h.many
  have e : P.manys [d] = d.many + 0 := rfl
  have e2 : [d].length = 1 := rfl
  omega
theorem Dr.one_deep {W : List (Str × Int)} {sc ss ss' : List Str} {dp n n' : Int} {d : P} (h : Dr W sc dp n ss n' ss' [d]) : d.deep ≤ dp.toNat + 1 := by
  have := h.deep
  have e : P.deeps [d] = max d.deep 0 := rfl
  omega
theorem two_ok {k : Str} {a b : P} (hk : (k, 2) ∈ kinds) (ha : a.ok) (hb : b.ok) : (P.op k [a, b]).ok := ⟨hk, ha, hb, True.intro⟩
theorem Bd.facts {W : List (Str × Int)} {me : Str} {things ss : List Str} {d : P} (h : Bd W me things ss d) (N : Nms W things ss) (hme : me ≠ "" → nmOk me) (hW : ∀ f, f ∈ W → 0 ≤ f.2 ∧ f.2 ≤ 4) (hl : things.length ≤ 4) : d.ok ∧ d.many ≤ 60 ∧ d.deep ≤ 12 := by
  cases h with
  | @part dp n n' ss' _ h0 h1 h2 h3 hd =>
    have e1 := hd.one_many
    have e2 := hd.one_deep
    have e3 := hd.nonneg h2
    exact ⟨hd.ok N d List.mem_cons_self, by omega, by omega⟩
  | @loop t0 ts n _ hm ht h0 h1 hL =>
    obtain ⟨os, as, one, more, last, n1, n2, n3, s1, s2, s3, d1, ha, d2, hmo, d3, rfl⟩ := hL.ex
    subst ht
    have N1 : Nms W (t0 :: ts) s1 := ⟨N.w, N.c, fun x hx => N.s x (d1.sub x hx)⟩
    have N2 : Nms W (t0 :: ts) s2 := ⟨N.w, N.c, fun x hx => N1.s x (d2.sub x hx)⟩
    have o1 := d1.ok N
    have o2 := d2.ok N1 one List.mem_cons_self
    have o3 := d3.ok N2 last List.mem_cons_self
    have oa := ha.ok (fun x hx => N.c x (List.mem_cons_of_mem _ hx)) o1
    have ht0 : (P.nam t0).ok := N.c t0 List.mem_cons_self
    have oc : (again me t0 as).ok := gives_ok (hme hm) fun b m => by
      rcases List.mem_cons.mp m with e | m
      · rw [e]
        exact two_ok kind_less ht0 True.intro
      · exact oa b m
    have l1 := ha.len
    have m1 := d1.many
    have m2 := d2.one_many
    have m3 := d3.one_many
    have ma := ha.many
    have p1 := d1.deep
    have p2 := d2.one_deep
    have p3 := d3.one_deep
    have pa := ha.deep
    have nn := d3.nonneg (d2.nonneg (d1.nonneg h0))
    have mc : (again me t0 as).many = 1 + (1 + (1 + (1 + 0)) + P.manys as) + (as.length + 1) := gives_many
    have pc : (again me t0 as).deep ≤ max 1 (max (1 + max 1 (max 1 0)) (P.deeps as)) + (as.length + 1) := gives_deep
    rw [List.length_cons] at hl
    have two : ∀ (k : Str) (x y : P), (P.op k [x, y]).many = 1 + (x.many + (y.many + 0)) := fun _ _ _ => rfl
    have twd : ∀ (k : Str) (x y : P), (P.op k [x, y]).deep = 1 + max x.deep (max y.deep 0) := fun _ _ _ => rfl
    have hmore : more.ok ∧ more.many ≤ 1 + one.many + (again me t0 as).many ∧ more.deep ≤ 1 + max one.deep (again me t0 as).deep := by
      cases hmo with
      | call => exact ⟨oc, by omega, by omega⟩
      | plus => exact ⟨two_ok kind_plus o2 oc, by rw [two]; omega, by rw [twd]; omega⟩
      | pair => exact ⟨two_ok kind_pair o2 oc, by rw [two]; omega, by rw [twd]; omega⟩
      | turn => exact ⟨two_ok kind_plus oc o2, by rw [two]; omega, by rw [twd]; omega⟩
    refine ⟨⟨kind_when, ht0, hmore.1, o3, True.intro⟩, ?_, ?_⟩
    · show 1 + (1 + (more.many + (last.many + 0))) ≤ 60
      omega
    · show 1 + max 1 (max more.deep (max last.deep 0)) ≤ 12
      omega
  | @first f w r ks hm hw hk h8 =>
    have hf : (f, w) ∈ W := by rw [hw]; exact List.mem_cons_self
    have hw4 := hW _ hf
    have hn : ∀ a, a ∈ ks.map P.num → a.ok := fun a m => by
      obtain ⟨k, _, rfl⟩ := List.mem_map.mp m
      exact True.intro
    have e1 : ∀ ks : List Int, P.manys (ks.map P.num) = ks.length := fun ks => by
      induction ks with
      | nil => rfl
      | cons k r ih =>
        show 1 + P.manys (r.map P.num) = r.length + 1
        rw [ih]
        omega
    have e2 : P.deeps (ks.map P.num) ≤ 1 := deeps_le fun a m => by
      obtain ⟨k, _, rfl⟩ := List.mem_map.mp m
      exact Nat.le_refl _
    have em := gives_many (as := ks.map P.num) (f := .fn f)
    have ed := gives_deep (as := ks.map P.num) (f := .fn f)
    rw [List.length_map] at em ed
    rw [e1] at em
    have f1 : (P.fn f).many = 1 := rfl
    have f2 : (P.fn f).deep = 1 := rfl
    refine ⟨gives_ok (N.w _ hf) hn, ?_, ?_⟩ <;> omega

/-! ### programs -/
abbrev Fn := Str × List Str × P
def fD (f : Fn) : PyData := .tuple [.str f.1, .tuple (f.2.1.map .str), f.2.2.data]
def progD (fs : List Fn) (d : P) : PyData := .tuple [.tuple (fs.map fD), d.data]
/-- six and twenty names, unlike -/
structure Stock (stk : List Str) : Prop where
  len : stk.length = 26
  nd : stk.Nodup
  ok : ∀ x, x ∈ stk → nmOk x
structure FnDr (W : List (Str × Int)) (f : Fn) : Prop where
  ex : ∃ (w : Nat) (stk : List Str), (f.1, (w : Int)) ∈ W ∧ w ≤ 4 ∧ Stock stk ∧ f.2.1 = stk.take w ∧ Bd W f.1 f.2.1 (stk.drop w) f.2.2
structure Prog (fs : List Fn) (d : P) : Prop where
  ex : ∃ W : List (Str × Int), W.map (·.1) = fs.map (·.1) ∧ (W.map (·.1)).Nodup ∧ W.length ≤ 8 ∧ (∀ f, f ∈ W → nmOk f.1 ∧ 0 ≤ f.2 ∧ f.2 ≤ 4) ∧ (∀ f, f ∈ fs → FnDr W f) ∧ ∃ stk, Stock stk ∧ Bd W "" [] stk d
theorem Stock.take {stk : List Str} (h : Stock stk) (w : Nat) : ∀ x, x ∈ stk.take w → nmOk x := fun x m => h.ok x (List.mem_of_mem_take m)
theorem Stock.drop {stk : List Str} (h : Stock stk) (w : Nat) : ∀ x, x ∈ stk.drop w → nmOk x := fun x m => h.ok x (List.mem_of_mem_drop m)
structure BodyOk (d : P) : Prop where
  ok : d.ok
  many : d.many ≤ 60
  deep : d.deep ≤ 12
theorem Prog.bodies {fs : List Fn} {d : P} (h : Prog fs d) : (∀ f, f ∈ fs → nmOk f.1 ∧ f.2.1.length ≤ 4 ∧ (∀ x, x ∈ f.2.1 → nmOk x) ∧ BodyOk f.2.2) ∧ BodyOk d ∧ fs.length ≤ 8 := by
  obtain ⟨W, e, nd, l8, hW, hf, stk, hs, hb⟩ := h.ex
  have hl : fs.length = W.length := by
    have := congrArg List.length e
    rw [List.length_map, List.length_map] at this
    exact this.symm
  refine ⟨fun f m => ?_, ?_, by omega⟩
  · obtain ⟨w, stk, hm, hw, hs, e, hb⟩ := (hf f m).ex
    have hl4 : f.2.1.length ≤ 4 := by rw [e, List.length_take]; omega
    have hn : ∀ x, x ∈ f.2.1 → nmOk x := by rw [e]; exact hs.take w
    have q := hb.facts ⟨fun g hg => (hW g hg).1, hn, hs.drop w⟩ (fun _ => (hW _ hm).1) (fun g hg => (hW g hg).2) hl4
    exact ⟨(hW _ hm).1, hl4, hn, q.1, q.2.1, q.2.2⟩
  · have q := hb.facts ⟨fun g hg => (hW g hg).1, (fun _ m => nomatch m), hs.ok⟩ (fun h => absurd rfl h) (fun g hg => (hW g hg).2) (Nat.zero_le _)
    exact ⟨q.1, q.2.1, q.2.2⟩
end Lz

set_option Elab.async false
set_option linter.all false
set_option maxRecDepth 100000
set_option maxHeartbeats 4000000
/-! Places: plain Lean. -/
namespace Lz
open PySem
mutual
/-- the part and all within it, each ahead of those within it -/
def P.all : P → List P
  | .op k as => .op k as :: P.alls as
  | .lt nm as b => .lt nm as b :: (P.alls as ++ P.all b)
  | .num i => [.num i]
  | .nam x => [.nam x]
  | .fn x => [.fn x]
def P.alls : List P → List P
  | [] => []
  | a :: as => P.all a ++ P.alls as
end
theorem alls_append : ∀ as bs : List P, P.alls (as ++ bs) = P.alls as ++ P.alls bs
  | [], bs => rfl
  | a :: as, bs => by
    show P.all a ++ P.alls (as ++ bs) = P.all a ++ P.alls as ++ P.alls bs
    rw [alls_append as bs, List.append_assoc]
theorem all_inn : ∀ t : P, t.all = t :: P.alls t.inn
  | .num _ => rfl
  | .nam _ => rfl
  | .fn _ => rfl
  | .op _ _ => rfl
  | .lt nm as b => by
    show P.lt nm as b :: (P.alls as ++ P.all b) = P.lt nm as b :: P.alls (as ++ [b])
    rw [alls_append]
    show _ = P.lt nm as b :: (P.alls as ++ (P.all b ++ []))
    rw [List.append_nil]
mutual
theorem all_len : ∀ t : P, t.all.length = t.many
  | .num _ => rfl
  | .nam _ => rfl
  | .fn _ => rfl
  | .op k as => by
    show (P.alls as).length + 1 = 1 + P.manys as
    rw [alls_len as]
    omega
  | .lt nm as b => by
    show (P.alls as ++ P.all b).length + 1 = 1 + (P.manys as + P.many b)
    rw [List.length_append, alls_len as, all_len b]
    omega
theorem alls_len : ∀ as : List P, (P.alls as).length = P.manys as
  | [] => rfl
  | a :: as => by
    show (P.all a ++ P.alls as).length = P.many a + P.manys as
    rw [List.length_append, all_len a, alls_len as]
end
mutual
theorem all_ok : ∀ t : P, t.ok → ∀ d, d ∈ t.all → d.ok ∧ d.deep ≤ t.deep
  | .num i, h, d, m => by
    rw [List.mem_singleton.mp (show d ∈ [P.num i] from m)]
    exact ⟨h, Nat.le_refl _⟩
  | .nam x, h, d, m => by
    rw [List.mem_singleton.mp (show d ∈ [P.nam x] from m)]
    exact ⟨h, Nat.le_refl _⟩
  | .fn x, h, d, m => by
    rw [List.mem_singleton.mp (show d ∈ [P.fn x] from m)]
    exact ⟨h, Nat.le_refl _⟩
  | .op k as, h, d, m => by
    rcases List.mem_cons.mp (show d ∈ P.op k as :: P.alls as from m) with e | m
    · rw [e]; exact ⟨h, Nat.le_refl _⟩
    · have q := alls_ok as h.2 d m
      refine ⟨q.1, ?_⟩
      show d.deep ≤ 1 + P.deeps as
      have := q.2
      omega
  | .lt nm as b, h, d, m => by
    rcases List.mem_cons.mp (show d ∈ P.lt nm as b :: (P.alls as ++ P.all b) from m) with e | m
    · rw [e]; exact ⟨h, Nat.le_refl _⟩
    · have e : (P.lt nm as b).deep = 1 + max (P.deeps as) b.deep := rfl
      rcases List.mem_append.mp m with m | m
      · have q := alls_ok as h.2.2.1 d m
        exact ⟨q.1, by have := q.2; omega⟩
      · have q := all_ok b h.2.2.2 d m
        exact ⟨q.1, by have := q.2; omega⟩
theorem alls_ok : ∀ as : List P, P.oks as → ∀ d, d ∈ P.alls as → d.ok ∧ d.deep ≤ P.deeps as
  | [], _, _, m => nomatch m
  | a :: as, h, d, m => by
    have e : P.deeps (a :: as) = max a.deep (P.deeps as) := rfl
    rcases List.mem_append.mp (show d ∈ P.all a ++ P.alls as from m) with m | m
    · have q := all_ok a h.1 d m
      exact ⟨q.1, by have := q.2; omega⟩
    · have q := alls_ok as h.2 d m
      exact ⟨q.1, by have := q.2; omega⟩
end
/-- a place -/
def plD (n : Nat) (t : P) : PyData := .tuple [t.data, .int (n : Nat)]
/-- the places of bodies from number n on -/
def plcs (n : Nat) : List P → List PyData
  | [] => []
  | b :: r => b.all.map (plD n) ++ plcs (n + 1) r
theorem plcs_append : ∀ (n : Nat) (as : List P) (b : P), plcs n (as ++ [b]) = plcs n as ++ b.all.map (plD (n + as.length))
  | n, [], b => by
    show b.all.map (plD n) ++ [] = b.all.map (plD n)
    rw [List.append_nil]
  | n, a :: as, b => by
    show a.all.map (plD n) ++ plcs (n + 1) (as ++ [b]) = a.all.map (plD n) ++ plcs (n + 1) as ++ b.all.map (plD (n + (as.length + 1)))
    rw [plcs_append (n + 1) as b, List.append_assoc]
    have e : n + 1 + as.length = n + (as.length + 1) := by omega
    rw [e]
theorem plcs_len : ∀ (n : Nat) (as : List P), (plcs n as).length = P.manys as
  | n, [] => rfl
  | n, a :: as => by
    show (a.all.map (plD n) ++ plcs (n + 1) as).length = a.many + P.manys as
    rw [List.length_append, List.length_map, all_len, plcs_len (n + 1) as]
theorem plD_fz (n : Nat) (t : P) : fz (plD n t) = true := by
  show (fz t.data && (true && true)) = true
  rw [data_fz]
  rfl
theorem plcs_mem : ∀ (n : Nat) (as : List P) (d : PyData), d ∈ plcs n as → ∃ a t m, a ∈ as ∧ t ∈ a.all ∧ d = plD m t
  | n, [], d, h => nomatch h
  | n, a :: as, d, h => by
    rcases List.mem_append.mp (show d ∈ a.all.map (plD n) ++ plcs (n + 1) as from h) with m | m
    · obtain ⟨t, ht, rfl⟩ := List.mem_map.mp m
      exact ⟨a, t, n, List.mem_cons_self, ht, rfl⟩
    · obtain ⟨b, t, k, hb, ht, e⟩ := plcs_mem (n + 1) as d m
      exact ⟨b, t, k, List.mem_cons_of_mem _ hb, ht, e⟩
theorem plcs_fz (n : Nat) (as : List P) : fzAll (plcs n as) = true := fzAll_iff.mpr fun d m => by
  obtain ⟨a, t, k, _, _, rfl⟩ := plcs_mem n as d m
  exact plD_fz _ _
theorem plcs_shaped {n : Nat} {as : List P} (h : ∀ a, a ∈ as → a.ok ∧ a.deep ≤ 12) : SeqAt.shaped (.list (plcs n as)) = true ∧ PyData.canLayAll0 (plcs n as) = true := by
  have h1 : PyData.canLayAll0 (plcs n as) = true := layAll_iff.mpr fun d m => by
    obtain ⟨a, t, k, ha, ht, rfl⟩ := plcs_mem n as d m
    have q := all_ok a (h a ha).1 t ht
    show (PyData.tuple [t.data, .int (k : Nat)]).canLay0 = true
    rw [lay_tup, lay_cons, lay_cons, lay_nil, data_lay t q.1]
    simp only [PyData.canLay0]
    rfl
  have h2 : PyData.depthAll (plcs n as) ≤ 40 := depthAll_le fun d m => by
    obtain ⟨a, t, k, ha, ht, rfl⟩ := plcs_mem n as d m
    have q := (all_ok a (h a ha).1 t ht).2
    have q2 := (h a ha).2
    have q3 := data_depth t
    show (PyData.tuple [t.data, .int (k : Nat)]).depth ≤ 40
    rw [depth_tup, depthAll_cons, depthAll_cons]
    simp only [PyData.depth, PyData.depthAll]
    omega
  have e : (PyData.list (plcs n as)).depth = PyData.depthAll (plcs n as) + 1 := by simp only [PyData.depth]
  have e2 : (PyData.list (plcs n as)).canLay0 = PyData.canLayAll0 (plcs n as) := by rw [PyData.canLay0]
  refine ⟨?_, h1⟩
  unfold SeqAt.shaped
  rw [e2, h1, Bool.true_and]
  exact decide_eq_true (by omega)
theorem plcs_same {n : Nat} {as : List P} (h : ∀ a, a ∈ as → a.ok ∧ a.deep ≤ 12) : PyData.eqv (.list (plcs n as)) (.list (plcs n as)) = true := by
  rw [PyData.eqv]
  exact SeqAt.eqvAll_refl _ (plcs_shaped h).2
/-! ### a program as its functions and what is asked -/
def askedFn (d : P) : Fn := (("" : Str), [], d)
def fnsOf (fs : List Fn) (d : P) : List Fn := fs ++ [askedFn d]
def bodies (fs : List Fn) : List P := fs.map (·.2.2)
structure PrOk (fs : List Fn) (d : P) : Prop where
  len : fs.length ≤ 8
  nd : ((fnsOf fs d).map (·.1)).Nodup
  bd : ∀ f, f ∈ fnsOf fs d → BodyOk f.2.2 ∧ f.2.1.length ≤ 4
theorem Prog.prOk {fs : List Fn} {d : P} (h : Prog fs d) : PrOk fs d := by
  obtain ⟨h1, h2, h3⟩ := h.bodies
  obtain ⟨W, e, nd, _⟩ := h.ex
  refine ⟨h3, ?_, fun f m => ?_⟩
  · unfold fnsOf
    rw [List.map_append, List.nodup_append]
    refine ⟨by rw [← e]; exact nd, by simp, fun a ha b hb => ?_⟩
    obtain ⟨f, hf, rfl⟩ := List.mem_map.mp ha
    have hb' : b = "" := by
      have := List.mem_singleton.mp (show b ∈ [(askedFn d).1] from hb)
      exact this
    intro q
    have := (h1 f hf).1.1
    rw [q, hb'] at this
    exact absurd this (by decide +kernel)
  · rcases List.mem_append.mp m with m | m
    · exact ⟨(h1 f m).2.2.2, (h1 f m).2.1⟩
    · rw [List.mem_singleton.mp m]
      exact ⟨h2, Nat.zero_le _⟩
theorem bodies_append (fs gs : List Fn) : bodies (fs ++ gs) = bodies fs ++ bodies gs := List.map_append
end Lz

set_option Elab.async false
set_option linter.all false
set_option maxRecDepth 100000
set_option maxHeartbeats 4000000
/-! What fits: plain Lean. -/
namespace Lz
open PySem
mutual
/-- numbers small enough, names known, one to four rows -/
def P.fit (F : List Str) : P → List Str → Prop
  | .num i, _ => i.natAbs < 10 ^ 60
  | .nam x, sc => x ∈ sc
  | .fn x, _ => x ∈ F
  | .op _ as, sc => P.fits F as sc
  | .lt nm as b, sc => 1 ≤ nm.length ∧ nm.length ≤ 4 ∧ P.fits F as (sc ++ nm) ∧ P.fit F b (sc ++ nm)
def P.fits (F : List Str) : List P → List Str → Prop
  | [], _ => True
  | a :: as, sc => P.fit F a sc ∧ P.fits F as sc
end
mutual
/-- the names of all rows within -/
def P.rown : P → List Str
  | .op _ as => P.rowns as
  | .lt nm as b => nm ++ (P.rowns as ++ P.rown b)
  | .num _ => []
  | .nam _ => []
  | .fn _ => []
def P.rowns : List P → List Str
  | [] => []
  | a :: as => P.rown a ++ P.rowns as
end
def P.own : P → List Str
  | .lt nm _ _ => nm
  | _ => []
theorem fits_iff {F : List Str} {sc : List Str} : ∀ {as : List P}, P.fits F as sc ↔ ∀ a, a ∈ as → a.fit F sc
  | [] => ⟨fun _ _ h => (nomatch h), fun _ => True.intro⟩
  | x :: xs => by
    show (P.fit F x sc ∧ P.fits F xs sc) ↔ _
    rw [fits_iff]
    refine ⟨fun h d m => ?_, fun h => ⟨h x List.mem_cons_self, fun d m => h d (List.mem_cons_of_mem _ m)⟩⟩
    rcases List.mem_cons.mp m with e | m
    · rw [e]; exact h.1
    · exact h.2 d m
theorem fits_append {F : List Str} {sc : List Str} {as bs : List P} : P.fits F (as ++ bs) sc ↔ P.fits F as sc ∧ P.fits F bs sc := by
  rw [fits_iff, fits_iff, fits_iff]
  exact ⟨fun h => ⟨fun a m => h a (List.mem_append_left _ m), fun a m => h a (List.mem_append_right _ m)⟩, fun h a m => (List.mem_append.mp m).elim (h.1 a) (h.2 a)⟩
theorem rowns_append : ∀ as bs : List P, P.rowns (as ++ bs) = P.rowns as ++ P.rowns bs
  | [], bs => rfl
  | a :: as, bs => by
    show P.rown a ++ P.rowns (as ++ bs) = P.rown a ++ P.rowns as ++ P.rowns bs
    rw [rowns_append as bs, List.append_assoc]
theorem rown_one (b : P) : P.rowns [b] = b.rown := List.append_nil _
/-- what is within a part that fits -/
theorem fit_inn {F : List Str} {t : P} {sc : List Str} (h : t.fit F sc) : ∀ a, a ∈ t.inn → a.fit F (sc ++ t.own) := fun a m => by
  cases t with
  | num i => exact nomatch m
  | nam i => exact nomatch m
  | fn i => exact nomatch m
  | op k as =>
    show a.fit F (sc ++ [])
    rw [List.append_nil]
    exact fits_iff.mp h a m
  | lt nm as b =>
    rcases List.mem_append.mp (show a ∈ as ++ [b] from m) with m | m
    · exact fits_iff.mp h.2.2.1 a m
    · rw [List.mem_singleton.mp m]
      exact h.2.2.2
theorem own_len {F : List Str} {t : P} {sc : List Str} (h : t.fit F sc) : t.own.length ≤ 4 := by
  cases t with
  | lt nm as b => exact h.2.1
  | _ => exact Nat.zero_le _
mutual
theorem all_own : ∀ t : P, t.all.flatMap P.own = t.rown
  | .num _ => rfl
  | .nam _ => rfl
  | .fn _ => rfl
  | .op k as => by
    show P.own (.op k as) ++ (P.alls as).flatMap P.own = P.rowns as
    rw [alls_own as]
    rfl
  | .lt nm as b => by
    show nm ++ (P.alls as ++ P.all b).flatMap P.own = nm ++ (P.rowns as ++ P.rown b)
    rw [List.flatMap_append, alls_own as, all_own b]
theorem alls_own : ∀ as : List P, (P.alls as).flatMap P.own = P.rowns as
  | [] => rfl
  | a :: as => by
    show (P.all a ++ P.alls as).flatMap P.own = P.rown a ++ P.rowns as
    rw [List.flatMap_append, all_own a, alls_own as]
end
theorem gives_rown : ∀ {as : List P} {f : P}, (gives f as).rown = f.rown ++ P.rowns as
  | [], f => (List.append_nil _).symm
  | a :: as, f => by
    show (gives (.op "give" [f, a]) as).rown = f.rown ++ (a.rown ++ P.rowns as)
    rw [gives_rown (as := as)]
    show (f.rown ++ (a.rown ++ [])) ++ P.rowns as = _
    rw [List.append_nil, List.append_assoc]
theorem gives_fit {F sc : List Str} : ∀ {as : List P} {f : P}, f.fit F sc → P.fits F as sc → (gives f as).fit F sc
  | [], f, h, _ => h
  | a :: as, f, h, k => gives_fit (as := as) (f := .op "give" [f, a]) (show P.fit F f sc ∧ P.fit F a sc ∧ True from ⟨h, k.1, True.intro⟩) k.2
theorem Dr.fits {W : List (Str × Int)} {sc ss ss' : List Str} {dp n n' : Int} {ds : List P} (h : Dr W sc dp n ss n' ss' ds) : P.fits (W.map (·.1)) ds sc := by
  induction h with
  | nil => exact True.intro
  | num a _ ih => exact ⟨a, ih⟩
  | nam a _ ih => exact ⟨a, ih⟩
  | fn a _ ih => exact ⟨List.mem_map.mpr ⟨_, a, rfl⟩, ih⟩
  | call a b c d _ _ i1 i2 => exact ⟨gives_fit (show _ ∈ _ from List.mem_map.mpr ⟨_, a, rfl⟩) i1, i2⟩
  | lt _ a b _ _ _ _ _ _ i1 i2 =>
    have q := fits_append.mp i1
    exact ⟨⟨a, b, q.1, q.2.1⟩, i2⟩
  | op _ _ _ _ _ i1 i2 => exact ⟨i1, i2⟩
theorem Dr.rows {W : List (Str × Int)} {sc ss ss' : List Str} {dp n n' : Int} {ds : List P} (h : Dr W sc dp n ss n' ss' ds) : (P.rowns ds ++ ss').Perm ss := by
  induction h with
  | nil => exact List.Perm.refl _
  | num a _ ih => exact ih
  | nam a _ ih => exact ih
  | fn a _ ih => exact ih
  | @call sc ss ss1 ss' dp n n1 n' w f as ds a b c d _ _ i1 i2 =>
    show ((gives (.fn f) as).rown ++ P.rowns ds ++ ss').Perm ss
    rw [gives_rown, List.append_assoc]
    exact (i2.append_left _).trans i1
  | @lt sc nm ss ss1 ss' dp n n1 n' as ds b k _ _ _ e1 _ _ _ _ _ i1 i2 =>
    show (nm ++ (P.rowns as ++ b.rown) ++ P.rowns ds ++ ss').Perm ss
    rw [rowns_append, rown_one] at i1
    rw [List.append_assoc, List.append_assoc]
    refine (((i2.append_left _).trans i1).append_left nm).trans ?_
    refine (List.perm_append_comm).trans ?_
    have e := List.take_append_drop k ss
    rw [e1] at e
    have : (ss.take k ++ nm).Perm (ss.take k ++ nm.reverse) := (List.reverse_perm nm).symm.append_left _
    rw [e] at this
    exact this
  | @op sc ss ss1 ss' dp n n1 n' k as ds _ _ _ _ _ i1 i2 =>
    show (P.rowns as ++ P.rowns ds ++ ss').Perm ss
    rw [List.append_assoc]
    exact (i2.append_left _).trans i1
theorem Dr.nodup {W : List (Str × Int)} {sc ss ss' : List Str} {dp n n' : Int} {ds : List P} (h : Dr W sc dp n ss n' ss' ds) (nd : ss.Nodup) : (P.rowns ds ++ ss').Nodup := (h.rows.nodup_iff).mpr nd
theorem Dr.mem {W : List (Str × Int)} {sc ss ss' : List Str} {dp n n' : Int} {ds : List P} (h : Dr W sc dp n ss n' ss' ds) : ∀ x, x ∈ P.rowns ds → x ∈ ss := fun x m => h.rows.mem_iff.mp (List.mem_append_left _ m)
theorem Args.rows {ts : List Str} {os as : List P} (h : Args ts os as) : (P.rowns as).Sublist (P.rowns os) := by
  induction h with
  | nil => exact List.Sublist.refl _
  | @snoc ts os as t o a _ ha ih =>
    rw [rowns_append, rowns_append, rown_one, rown_one]
    refine ih.append ?_
    rcases ha with rfl | rfl
    · exact List.nil_sublist _
    · exact List.Sublist.refl _
theorem Args.fits {ts : List Str} {os as : List P} {F sc : List Str} (h : Args ts os as) : (∀ x, x ∈ ts → x ∈ sc) → P.fits F os sc → P.fits F as sc := by
  induction h with
  | nil => exact fun _ _ => True.intro
  | @snoc ts os as t o a _ ha ih =>
    intro h1 h2
    rw [fits_append] at h2 ⊢
    refine ⟨ih (fun x m => h1 x (List.mem_append_left _ m)) h2.1, ?_, True.intro⟩
    rcases ha with rfl | rfl
    · exact h1 _ (List.mem_append_right _ List.mem_cons_self)
    · exact h2.2.1
theorem again_rown (me t0 : Str) (as : List P) : (again me t0 as).rown = P.rowns as := by
  unfold again
  rw [gives_rown]
  rfl
theorem Bd.more {W : List (Str × Int)} {me : Str} {things ss : List Str} {d : P} (h : Bd W me things ss d) (hme : me ≠ "" → me ∈ W.map (·.1)) (nd : ss.Nodup) : d.fit (W.map (·.1)) things ∧ d.rown.Nodup ∧ ∀ x, x ∈ d.rown → x ∈ ss := by
  cases h with
  | @part dp n n' ss' _ h0 h1 h2 h3 hd =>
    have e1 := hd.fits
    have e2 := hd.nodup nd
    have e3 := hd.mem
    rw [rown_one] at e2 e3
    exact ⟨e1.1, (List.nodup_append.mp e2).1, e3⟩
  | @loop t0 ts n _ hm ht h0 h1 hL =>
    obtain ⟨os, as, one, more, last, n1, n2, n3, s1, s2, s3, d1, ha, d2, hmo, d3, rfl⟩ := hL.ex
    subst ht
    have f1 := d1.fits
    have f2 := d2.fits.1
    have f3 := d3.fits.1
    have fa := ha.fits (fun x m => List.mem_cons_of_mem _ m) f1
    have ft : (P.nam t0).fit (W.map (·.1)) (t0 :: ts) := (List.mem_cons_self : t0 ∈ t0 :: ts)
    have fl : (P.op "less" [.nam t0, .num 1]).fit (W.map (·.1)) (t0 :: ts) := ⟨ft, (by show (1 : Int).natAbs < 10 ^ 60; decide +kernel), True.intro⟩
    have fc : (again me t0 as).fit (W.map (·.1)) (t0 :: ts) := gives_fit (show me ∈ _ from hme hm) ⟨fl, fa⟩
    have r1 := d1.rows
    have r2 := d2.rows
    have r3 := d3.rows
    rw [rown_one] at r2 r3
    have rr : (P.rowns os ++ (one.rown ++ (last.rown ++ s3))).Perm ss := (((r3.append_left _).trans r2).append_left _).trans r1
    have nn := rr.nodup_iff.mpr nd
    have hs := ha.rows
    have hr : (P.op "when" [.nam t0, more, last]).rown = more.rown ++ last.rown := by
      show [] ++ (more.rown ++ (last.rown ++ [])) = _
      rw [List.append_nil]
      rfl
    have key : ∀ L : List Str, L.Sublist (P.rowns os ++ (one.rown ++ (last.rown ++ s3))) ∨ L.Sublist (one.rown ++ (P.rowns os ++ (last.rown ++ s3))) → L.Nodup ∧ ∀ x, x ∈ L → x ∈ ss := fun L h => by
      rcases h with h | h
      · exact ⟨h.nodup nn, fun x m => rr.mem_iff.mp (h.subset m)⟩
      · have sw : (one.rown ++ (P.rowns os ++ (last.rown ++ s3))).Perm (P.rowns os ++ (one.rown ++ (last.rown ++ s3))) := by
          rw [← List.append_assoc, ← List.append_assoc (P.rowns os)]
          exact List.perm_append_comm.append_right _
        have nn2 := sw.nodup_iff.mpr nn
        exact ⟨h.nodup nn2, fun x m => rr.mem_iff.mp (sw.mem_iff.mp (h.subset m))⟩
    have sl : last.rown.Sublist (last.rown ++ s3) := List.sublist_append_left _ _
    have ac := again_rown me t0 as
    cases hmo with
    | call =>
      refine ⟨⟨ft, fc, f3, True.intro⟩, ?_⟩
      rw [hr, ac]
      exact key _ (.inl (hs.append (sl.trans (List.sublist_append_right _ _))))
    | plus =>
      refine ⟨⟨ft, ⟨f2, fc, True.intro⟩, f3, True.intro⟩, ?_⟩
      rw [hr]
      have e : (P.op "plus" [one, again me t0 as]).rown = one.rown ++ P.rowns as := by
        show one.rown ++ ((again me t0 as).rown ++ []) = _
        rw [List.append_nil, ac]
      rw [e, List.append_assoc]
      exact key _ (.inr ((List.Sublist.refl _).append (hs.append sl)))
    | pair =>
      refine ⟨⟨ft, ⟨f2, fc, True.intro⟩, f3, True.intro⟩, ?_⟩
      rw [hr]
      have e : (P.op "pair" [one, again me t0 as]).rown = one.rown ++ P.rowns as := by
        show one.rown ++ ((again me t0 as).rown ++ []) = _
        rw [List.append_nil, ac]
      rw [e, List.append_assoc]
      exact key _ (.inr ((List.Sublist.refl _).append (hs.append sl)))
    | turn =>
      refine ⟨⟨ft, ⟨fc, f2, True.intro⟩, f3, True.intro⟩, ?_⟩
      rw [hr]
      have e : (P.op "plus" [again me t0 as, one]).rown = P.rowns as ++ one.rown := by
        show (again me t0 as).rown ++ (one.rown ++ []) = _
        rw [List.append_nil, ac]
      rw [e, List.append_assoc]
      exact key _ (.inl (hs.append ((List.Sublist.refl _).append sl)))
  | @first f w r ks hm hw hk h8 =>
    have hf : f ∈ W.map (·.1) := by rw [hw]; exact List.mem_cons_self
    have e : (gives (.fn f) (ks.map P.num)).rown = [] := by
      rw [gives_rown]
      show [] ++ P.rowns (ks.map P.num) = []
      rw [List.nil_append]
      clear hk h8
      induction ks with
      | nil => rfl
      | cons k r ih => exact ih
    refine ⟨gives_fit hf (fits_iff.mpr fun a m => ?_), ?_⟩
    · obtain ⟨k, hk, rfl⟩ := List.mem_map.mp m
      have := h8 k hk
      show k.natAbs < 10 ^ 60
      have h60 : (8 : Nat) ≤ 10 ^ 60 := by decide +kernel
      generalize (10 : Nat) ^ 60 = z at h60 ⊢
      omega
    · rw [e]
      exact ⟨List.nodup_nil, fun x m => nomatch m⟩
/-- a program that fits -/
structure Fits (fs : List Fn) (d : P) : Prop where
  len : fs.length ≤ 8
  nm : ∀ g, g ∈ fs → nmOk g.1 ∧ ∀ x, x ∈ g.2.1 → nmOk x
  nd : (fs.map (·.1)).Nodup
  few : ∀ g, g ∈ fnsOf fs d → g.2.1.length ≤ 4
  bd : ∀ g, g ∈ fnsOf fs d → BodyOk g.2.2
  ft : ∀ g, g ∈ fnsOf fs d → g.2.2.fit (fs.map (·.1)) g.2.1
  hid : ∀ g, g ∈ fnsOf fs d → (g.2.1 ++ g.2.2.rown).Nodup
theorem Prog.fits {fs : List Fn} {d : P} (h : Prog fs d) : Fits fs d := by
  obtain ⟨h1, h2, h3⟩ := h.bodies
  obtain ⟨W, e, nd, l8, hW, hf, stk, hs, hb⟩ := h.ex
  have q2 := hb.more (fun q => absurd rfl q) hs.nd
  rw [e] at q2
  have key : ∀ g, g ∈ fnsOf fs d → g.2.1.length ≤ 4 ∧ BodyOk g.2.2 ∧ g.2.2.fit (fs.map (·.1)) g.2.1 ∧ (g.2.1 ++ g.2.2.rown).Nodup := fun g m => by
    rcases List.mem_append.mp m with m | m
    · obtain ⟨w, stk, hm, hw, hs, e2, hb⟩ := (hf g m).ex
      have hme : g.1 ∈ W.map (·.1) := List.mem_map.mpr ⟨_, hm, rfl⟩
      have q := hb.more (fun _ => hme) (hs.nd.sublist (List.drop_sublist _ _))
      rw [e] at q
      refine ⟨(h1 g m).2.1, (h1 g m).2.2.2, q.1, ?_⟩
      have hn := hs.nd
      rw [← List.take_append_drop w stk] at hn
      have hn := List.nodup_append.mp hn
      rw [e2, List.nodup_append]
      rw [e2] at q
      exact ⟨hn.1, q.2.1, fun a ha b hb => hn.2.2 a ha b (q.2.2 b hb)⟩
    · rw [List.mem_singleton.mp m]
      exact ⟨Nat.zero_le _, h2, q2.1, q2.2.1⟩
  exact ⟨h3, fun g m => ⟨(h1 g m).1, (h1 g m).2.2.1⟩, by rw [← e]; exact nd, fun g m => (key g m).1, fun g m => (key g m).2.1, fun g m => (key g m).2.2.1, fun g m => (key g m).2.2.2⟩
end Lz

set_option Elab.async false
set_option linter.all false
set_option maxRecDepth 100000
set_option maxHeartbeats 4000000
/-! Closed parts, shut ones among them: plain Lean. -/
namespace Lz
open PySem
theorem small9000 {n : Nat} (h : n ≤ 9000) : n < 2 ^ 24 := by
  have : (2 : Nat) ^ 24 = 16777216 := by decide
  omega
theorem small60000 {n : Nat} (h : n ≤ 60000) : n < 2 ^ 24 := by
  have : (2 : Nat) ^ 24 = 16777216 := by decide
  omega
def kinds2 : List (Str × Nat) := ("shut", 1) :: kinds
mutual
/-- it is a closed part: kinds, shut ones too, names, functions that are there -/
def P.okS (F : List Str) : P → Prop
  | .num _ => True
  | .nam x => nmOk x
  | .fn x => nmOk x ∧ x ∈ F
  | .op k as => (k, as.length) ∈ kinds2 ∧ P.okSs F as
  | .lt nm as b => nm.length = as.length ∧ (∀ x, x ∈ nm → nmOk x) ∧ P.okSs F as ∧ P.okS F b
def P.okSs (F : List Str) : List P → Prop
  | [] => True
  | a :: as => P.okS F a ∧ P.okSs F as
end
theorem okSs_iff {F : List Str} : ∀ {as : List P}, P.okSs F as ↔ ∀ a, a ∈ as → a.okS F
  | [] => ⟨fun _ _ h => (nomatch h), fun _ => True.intro⟩
  | x :: xs => by
    show (P.okS F x ∧ P.okSs F xs) ↔ _
    rw [okSs_iff]
    refine ⟨fun h d m => ?_, fun h => ⟨h x List.mem_cons_self, fun d m => h d (List.mem_cons_of_mem _ m)⟩⟩
    rcases List.mem_cons.mp m with e | m
    · rw [e]; exact h.1
    · exact h.2 d m
theorem kinds_sub {k : Str} {n : Nat} (h : (k, n) ∈ kinds) : (k, n) ∈ kinds2 := List.mem_cons_of_mem _ h
mutual
theorem okS_of {F : List Str} : ∀ (t : P) (sc : List Str), t.ok → t.fit F sc → t.okS F
  | .num _, _, _, _ => True.intro
  | .nam _, _, h, _ => h
  | .fn _, _, h, k => ⟨h, k⟩
  | .op k as, sc, h, f => ⟨kinds_sub h.1, okSs_of as sc h.2 f⟩
  | .lt nm as b, sc, h, f => ⟨h.1, h.2.1, okSs_of as _ h.2.2.1 f.2.2.1, okS_of b _ h.2.2.2 f.2.2.2⟩
theorem okSs_of {F : List Str} : ∀ (as : List P) (sc : List Str), P.oks as → P.fits F as sc → P.okSs F as
  | [], _, _, _ => True.intro
  | a :: as, sc, h, f => ⟨okS_of a sc h.1 f.1, okSs_of as sc h.2 f.2⟩
end
theorem kind2_str {k : Str} {n : Nat} (h : (k, n) ∈ kinds2) : PyData.strOk k = true := by
  have h0 : kinds2.all (fun p => PyData.strOk p.1) = true := by decide +kernel
  exact List.all_eq_true.mp h0 _ h
theorem kind2_len {k : Str} {n : Nat} (h : (k, n) ∈ kinds2) : 1 ≤ n ∧ n ≤ 3 := by
  have h0 : kinds2.all (fun p => decide (1 ≤ p.2) && decide (p.2 ≤ 3)) = true := by decide +kernel
  have q := List.all_eq_true.mp h0 _ h
  simp only [Bool.and_eq_true, decide_eq_true_eq] at q
  exact q
theorem kind2_plain {k : Str} {n : Nat} (h : (k, n) ∈ kinds2) : k ≠ "let" ∧ k ≠ "number" ∧ k ≠ "name" ∧ k ≠ "fun" := by
  have h0 : kinds2.all (fun p => decide (p.1 ≠ "let") && decide (p.1 ≠ "number") && decide (p.1 ≠ "name") && decide (p.1 ≠ "fun")) = true := by decide +kernel
  have q := List.all_eq_true.mp h0 _ h
  simp only [Bool.and_eq_true, decide_eq_true_eq] at q
  exact ⟨q.1.1.1, q.1.1.2, q.1.2, q.2⟩
theorem give_two {n : Nat} (h : (("give" : Str), n) ∈ kinds2) : n = 2 := by
  have h0 : kinds2.all (fun p => !decide (p.1 = "give") || decide (p.2 = 2)) = true := by decide +kernel
  have q := List.all_eq_true.mp h0 _ h
  simpa using q
mutual
theorem data_layS {F : List Str} : ∀ t : P, t.okS F → t.data.canLay0 = true
  | .num _, _ => by
    show (PyData.tuple [.str "number", .int _]).canLay0 = true
    rw [lay_tup, lay_cons, lay_cons, lay_nil, lay_str]
    simp only [PyData.canLay0]
    decide +kernel
  | .nam x, h => by
    show (PyData.tuple [.str "name", .str x]).canLay0 = true
    rw [lay_tup, lay_cons, lay_cons, lay_nil, lay_str, lay_str, nmOk.strOk (show nmOk x from h)]
    decide +kernel
  | .fn x, h => by
    show (PyData.tuple [.str "fun", .str x]).canLay0 = true
    have h' : nmOk x ∧ x ∈ F := h
    rw [lay_tup, lay_cons, lay_cons, lay_nil, lay_str, lay_str, nmOk.strOk h'.1]
    decide +kernel
  | .op k as, h => by
    show (PyData.tuple (.str k :: P.datas as)).canLay0 = true
    have h' : (k, as.length) ∈ kinds2 ∧ P.okSs F as := h
    rw [lay_tup, lay_cons, lay_str, kind2_str h'.1, datas_layS as h'.2]
    rfl
  | .lt nm as b, h => by
    show (PyData.tuple [.str "let", .tuple (List.zipWith rowD nm (P.datas as)), b.data]).canLay0 = true
    have h' : nm.length = as.length ∧ (∀ x, x ∈ nm → nmOk x) ∧ P.okSs F as ∧ P.okS F b := h
    have hr : PyData.canLayAll0 (List.zipWith rowD nm (P.datas as)) = true := layAll_iff.mpr fun d m => by
      obtain ⟨x, e, hx, he, rfl⟩ := zip_mem m
      have q := layAll_iff.mp (datas_layS as h'.2.2.1) e he
      show (PyData.tuple [.str x, e]).canLay0 = true
      rw [lay_tup, lay_cons, lay_cons, lay_nil, lay_str, nmOk.strOk (h'.2.1 x hx), q]
      rfl
    rw [lay_tup, lay_cons, lay_cons, lay_cons, lay_nil, lay_str, lay_tup, hr, data_layS b h'.2.2.2]
    decide +kernel
theorem datas_layS {F : List Str} : ∀ as : List P, P.okSs F as → PyData.canLayAll0 (P.datas as) = true
  | [], _ => lay_nil
  | a :: as, h => by
    have h' : P.okS F a ∧ P.okSs F as := h
    show PyData.canLayAll0 (a.data :: P.datas as) = true
    rw [lay_cons, data_layS a h'.1, datas_layS as h'.2]
    rfl
end
theorem datas_shapedS {F : List Str} {as : List P} (h : P.okSs F as) (hd : P.deeps as ≤ 20) : SeqAt.shaped (.list (P.datas as)) = true := by
  have h1 := datas_depth as
  have e : (PyData.list (P.datas as)).depth = PyData.depthAll (P.datas as) + 1 := by simp only [PyData.depth]; try omega
  have e2 : (PyData.list (P.datas as)).canLay0 = PyData.canLayAll0 (P.datas as) := by rw [PyData.canLay0]
  unfold SeqAt.shaped
  rw [e2, datas_layS as h, Bool.true_and]
  exact decide_eq_true (by omega)
/-- the kind of a part -/
def P.hd : P → Str
  | .num _ => "number"
  | .nam _ => "name"
  | .fn _ => "fun"
  | .op k _ => k
  | .lt _ _ _ => "let"
def P.tl : P → List PyData
  | .num i => [.int i]
  | .nam x => [.str x]
  | .fn x => [.str x]
  | .op _ as => P.datas as
  | .lt nm as b => [.tuple (List.zipWith rowD nm (P.datas as)), b.data]
theorem data_hd : ∀ t : P, t.data = .tuple (.str t.hd :: t.tl)
  | .num _ => rfl
  | .nam _ => rfl
  | .fn _ => rfl
  | .op _ _ => rfl
  | .lt _ _ _ => rfl
theorem hd_give {F : List Str} {t : P} (h : t.okS F) (e : t.hd = "give") : ∃ a b, t = .op "give" [a, b] := by
  cases t with
  | num i => exact absurd (show ("number" : Str) = "give" from e) (by decide +kernel)
  | nam i => exact absurd (show ("name" : Str) = "give" from e) (by decide +kernel)
  | fn i => exact absurd (show ("fun" : Str) = "give" from e) (by decide +kernel)
  | lt nm as b => exact absurd (show ("let" : Str) = "give" from e) (by decide +kernel)
  | op k as =>
    obtain rfl : k = "give" := e
    have h2 := give_two (show (("give" : Str), as.length) ∈ kinds2 ∧ P.okSs F as from h).1
    match as, h2 with
    | [a, b], _ => exact ⟨a, b, rfl⟩
theorem hd_fun {F : List Str} {t : P} (h : t.okS F) (e : t.hd = "fun") : ∃ f, t = .fn f ∧ f ∈ F := by
  cases t with
  | num i => exact absurd (show ("number" : Str) = "fun" from e) (by decide +kernel)
  | nam i => exact absurd (show ("name" : Str) = "fun" from e) (by decide +kernel)
  | fn i => exact ⟨i, rfl, (show nmOk i ∧ i ∈ F from h).2⟩
  | lt nm as b => exact absurd (show ("let" : Str) = "fun" from e) (by decide +kernel)
  | op k as => exact absurd e (kind2_plain (show (k, as.length) ∈ kinds2 ∧ P.okSs F as from h).1).2.2.2
/-- so many gives, and what stands at their head -/
inductive Spine : P → Nat → P → Prop
  | stop {t : P} : t.hd ≠ "give" → Spine t 0 t
  | give {a b h : P} {n : Nat} : Spine a n h → Spine (.op "give" [a, b]) (n + 1) h
theorem spine_ex {F : List Str} : ∀ (n : Nat) (t : P), t.many ≤ n → t.okS F → ∃ k h, Spine t k h ∧ h.okS F ∧ h.hd ≠ "give"
  | 0, t, h, _ => by
    have := many_pos t
    omega
  | n + 1, t, h, ok => by
    by_cases e : t.hd = "give"
    · obtain ⟨a, b, rfl⟩ := hd_give ok e
      have hm : 1 + (a.many + (b.many + 0)) ≤ n + 1 := h
      have oa : a.okS F := (show _ ∧ (P.okS F a ∧ _) from ok).2.1
      obtain ⟨k, hh, h1, h2, h3⟩ := spine_ex n a (by omega) oa
      exact ⟨k + 1, hh, .give h1, h2, h3⟩
    · exact ⟨0, t, .stop e, ok, e⟩
/-- how many things the function of this name wants -/
def wantsOf (fs : List Fn) (f : Str) : Nat := match fs.find? (fun g => g.1 == f) with
  | some g => g.2.1.length
  | none => 0
theorem wants_at : ∀ {fs : List Fn} {i : Nat} {g : Fn}, (fs.map (·.1)).Nodup → fs[i]? = some g → wantsOf fs g.1 = g.2.1.length
  | [], i, g, _, h => by simp at h
  | f :: fs, 0, g, _, h => by
    obtain rfl : f = g := Option.some.inj h
    unfold wantsOf
    rw [List.find?_cons_of_pos (by simp)]
  | f :: fs, i + 1, g, nd, h => by
    have h' : fs[i]? = some g := h
    rw [List.map_cons, List.nodup_cons] at nd
    have hne : f.1 ≠ g.1 := fun e => nd.1 (List.mem_map.mpr ⟨g, List.mem_of_getElem? h', e.symm⟩)
    have q := wants_at nd.2 h'
    unfold wantsOf at q ⊢
    rw [List.find?_cons_of_neg (by simpa using hne)]
    exact q
def worthB (fs : List Fn) (n : Nat) (h : P) : Bool := match h with
  | .fn f => decide (n < wantsOf fs f)
  | h => decide (n = 0) && (decide (h.hd = "number") || decide (h.hd = "pair"))
theorem worth_fn (fs : List Fn) (n : Nat) (f : Str) : worthB fs n (.fn f) = decide (n < wantsOf fs f) := rfl
theorem worth_not {fs : List Fn} {n : Nat} {h : P} (e : h.hd ≠ "fun") : worthB fs n h = (decide (n = 0) && (decide (h.hd = "number") || decide (h.hd = "pair"))) := by
  cases h with
  | fn f => exact absurd rfl e
  | num _ => rfl
  | nam _ => rfl
  | op _ _ => rfl
  | lt _ _ _ => rfl
theorem wants_le {fs : List Fn} {f : Str} {m : Nat} (h : ∀ g, g ∈ fs → g.2.1.length ≤ m) : wantsOf fs f ≤ m := by
  unfold wantsOf
  cases e : fs.find? (fun g => g.1 == f) with
  | none => exact Nat.zero_le _
  | some g => exact h g (List.mem_of_find?_eq_some e)
/-- of what is within a part there are fewer -/
theorem inn_room {t a : P} (m : a ∈ t.inn) : a.many + t.inn.length ≤ t.many := by
  have h : ∀ as : List P, a ∈ as → a.many + as.length ≤ P.manys as + 1 := fun as => by
    induction as with
    | nil => exact fun m => nomatch m
    | cons x r ih =>
      intro m
      show a.many + (r.length + 1) ≤ x.many + P.manys r + 1
      have h1 := many_pos x
      have h2 := len_manys r
      rcases List.mem_cons.mp m with e | m
      · subst e; omega
      · have := ih m
        omega
  have h1 := h _ m
  rw [many_inn t]
  omega
theorem manys_le {c : Nat} : ∀ {as : List P}, (∀ a, a ∈ as → a.many ≤ c) → P.manys as ≤ c * as.length
  | [], _ => Nat.zero_le _
  | x :: r, h => by
    show x.many + P.manys r ≤ c * (r.length + 1)
    have h1 := h x List.mem_cons_self
    have h2 := manys_le (as := r) fun a m => h a (List.mem_cons_of_mem _ m)
    rw [Nat.mul_add]
    omega
end Lz

set_option Elab.async false
set_option linter.all false
set_option maxRecDepth 100000
set_option maxHeartbeats 4000000
/-! What is put in for names; the stack of what is made, from the last part to the first: plain Lean. -/
namespace Lz
open PySem
/-- what one goes on into: nothing of a shut part -/
def P.win : P → List P
  | .op k as => if k = "shut" then [] else as
  | .lt _ as b => as ++ [b]
  | _ => []
mutual
/-- all that is gone through, ahead of what is within -/
def P.alw : P → List P
  | .op k as => .op k as :: (if k = "shut" then [] else P.alws as)
  | .lt nm as b => .lt nm as b :: (P.alws as ++ P.alw b)
  | .num i => [.num i]
  | .nam x => [.nam x]
  | .fn x => [.fn x]
def P.alws : List P → List P
  | [] => []
  | a :: as => P.alw a ++ P.alws as
end
theorem alws_append : ∀ as bs : List P, P.alws (as ++ bs) = P.alws as ++ P.alws bs
  | [], bs => rfl
  | a :: as, bs => by
    show P.alw a ++ P.alws (as ++ bs) = P.alw a ++ P.alws as ++ P.alws bs
    rw [alws_append as bs, List.append_assoc]
theorem alw_win : ∀ t : P, t.alw = t :: P.alws t.win
  | .num _ => rfl
  | .nam _ => rfl
  | .fn _ => rfl
  | .op k as => by
    show P.op k as :: (if k = "shut" then [] else P.alws as) = P.op k as :: P.alws (if k = "shut" then [] else as)
    by_cases h : k = "shut"
    · rw [if_pos h, if_pos h]
      rfl
    · rw [if_neg h, if_neg h]
  | .lt nm as b => by
    show P.lt nm as b :: (P.alws as ++ P.alw b) = P.lt nm as b :: P.alws (as ++ [b])
    rw [alws_append]
    show _ = P.lt nm as b :: (P.alws as ++ (P.alw b ++ []))
    rw [List.append_nil]
theorem alws_cons (p : P) (r : List P) : P.alws (p :: r) = p :: P.alws (p.win ++ r) := by
  show p.alw ++ P.alws r = _
  rw [alw_win, alws_append]
  rfl
/-- how many are gone through, how deep -/
def P.mw (t : P) : Nat := t.alw.length
def P.mws (ts : List P) : Nat := (P.alws ts).length
theorem mws_append (as bs : List P) : P.mws (as ++ bs) = P.mws as + P.mws bs := by unfold P.mws; rw [alws_append, List.length_append]
theorem mw_win (t : P) : t.mw = P.mws t.win + 1 := by unfold P.mw P.mws; rw [alw_win, List.length_cons]
theorem mws_one (t : P) : P.mws [t] = t.mw := by
  show (t.alw ++ []).length = t.alw.length
  rw [List.append_nil]
theorem mws_rev (ts : List P) : P.mws ts.reverse = P.mws ts := by
  induction ts with
  | nil => rfl
  | cons a r ih =>
    rw [List.reverse_cons, mws_append, ih, mws_one]
    show _ = (a.alw ++ P.alws r).length
    rw [List.length_append]
    exact Nat.add_comm _ _
theorem mws_len : ∀ ts : List P, ts.length ≤ P.mws ts
  | [] => Nat.le_refl _
  | a :: r => by
    have h1 := mws_len r
    have h2 : P.mws (a :: r) = a.mw + P.mws r := by
      show (a.alw ++ P.alws r).length = _
      rw [List.length_append]
      rfl
    have h3 := mw_win a
    rw [List.length_cons]
    omega
theorem mws_mem {ts : List P} {a : P} (h : a ∈ ts) : a.mw ≤ P.mws ts := by
  induction ts with
  | nil => exact nomatch h
  | cons b r ih =>
    have h2 : P.mws (b :: r) = b.mw + P.mws r := by
      show (b.alw ++ P.alws r).length = _
      rw [List.length_append]
      rfl
    rcases List.mem_cons.mp h with e | m
    · rw [e]; omega
    · have := ih m
      omega
mutual
theorem mw_many : ∀ t : P, t.mw ≤ t.many
  | .num _ => Nat.le_refl _
  | .nam _ => Nat.le_refl _
  | .fn _ => Nat.le_refl _
  | .op k as => by
    have h := mws_manys as
    rw [mw_win]
    show P.mws (if k = "shut" then [] else as) + 1 ≤ 1 + P.manys as
    by_cases e : k = "shut"
    · rw [if_pos e]
      show 0 + 1 ≤ _
      omega
    · rw [if_neg e]
      omega
  | .lt nm as b => by
    have h := mws_manys as
    have h2 := mw_many b
    rw [mw_win]
    show P.mws (as ++ [b]) + 1 ≤ 1 + (P.manys as + b.many)
    rw [mws_append, mws_one]
    omega
theorem mws_manys : ∀ ts : List P, P.mws ts ≤ P.manys ts
  | [] => Nat.le_refl _
  | a :: r => by
    have h1 := mw_many a
    have h2 := mws_manys r
    show (a.alw ++ P.alws r).length ≤ a.many + P.manys r
    rw [List.length_append]
    exact Nat.add_le_add h1 h2
end
/-! ### what is put in -/
def getT (th : List (Str × P)) (x : Str) : Option P := (th.find? fun p => decide (p.1 = x)).map (·.2)
mutual
def P.put (th : List (Str × P)) : P → P
  | .nam x => match getT th x with
    | some p => .op "shut" [p]
    | none => .nam x
  | .op k as => .op k (if k = "shut" then as else P.puts th as)
  | .lt nm as b => .lt nm (P.puts th as) (P.put th b)
  | .num i => .num i
  | .fn x => .fn x
def P.puts (th : List (Str × P)) : List P → List P
  | [] => []
  | a :: as => P.put th a :: P.puts th as
end
section
variable {th : List (Str × P)}
theorem puts_map : ∀ as : List P, P.puts th as = as.map (P.put th)
  | [] => rfl
  | a :: as => by
    show P.put th a :: P.puts th as = _
    rw [puts_map as]
    rfl
theorem puts_len (as : List P) : (P.puts th as).length = as.length := by rw [puts_map, List.length_map]
theorem puts_append (as bs : List P) : P.puts th (as ++ bs) = P.puts th as ++ P.puts th bs := by rw [puts_map, puts_map, puts_map, List.map_append]
mutual
theorem put_nil : ∀ t : P, P.put [] t = t
  | .num _ => rfl
  | .nam _ => rfl
  | .fn _ => rfl
  | .op k as => by
    show P.op k (if k = "shut" then as else P.puts [] as) = P.op k as
    rw [puts_nil as, ite_self]
  | .lt nm as b => by
    show P.lt nm (P.puts [] as) (P.put [] b) = P.lt nm as b
    rw [puts_nil as, put_nil b]
theorem puts_nil : ∀ as : List P, P.puts [] as = as
  | [] => rfl
  | a :: as => by
    show P.put [] a :: P.puts [] as = a :: as
    rw [put_nil a, puts_nil as]
end
theorem put_name {x : Str} {p : P} (h : getT th x = some p) : P.put th (.nam x) = .op "shut" [p] := by
  show (match getT th x with | some p => P.op "shut" [p] | none => P.nam x) = _
  rw [h]
theorem put_name0 {x : Str} (h : getT th x = none) : P.put th (.nam x) = .nam x := by
  show (match getT th x with | some p => P.op "shut" [p] | none => P.nam x) = _
  rw [h]
theorem getT_mem {x : Str} {p : P} (h : getT th x = some p) : ∃ y, (y, p) ∈ th := by
  unfold getT at h
  cases e : th.find? (fun p => decide (p.1 = x)) with
  | none => rw [e] at h; cases h
  | some q =>
    rw [e] at h
    obtain rfl : q.2 = p := Option.some.inj h
    exact ⟨q.1, List.mem_of_find?_eq_some e⟩
/-! how many, how deep -/
mutual
theorem mw_put : ∀ t : P, (P.put th t).mw = t.mw
  | .num _ => rfl
  | .nam x => by
    cases h : getT th x with
    | none => rw [put_name0 h]
    | some p => rw [put_name h, mw_win, mw_win]; rfl
  | .fn _ => rfl
  | .op k as => by
    rw [mw_win, mw_win]
    show P.mws (if k = "shut" then [] else (if k = "shut" then as else P.puts th as)) + 1 = P.mws (if k = "shut" then [] else as) + 1
    by_cases e : k = "shut"
    · rw [if_pos e, if_pos e]
    · rw [if_neg e, if_neg e, if_neg e, mws_puts as]
  | .lt nm as b => by
    rw [mw_win, mw_win]
    show P.mws (P.puts th as ++ [P.put th b]) + 1 = P.mws (as ++ [b]) + 1
    rw [mws_append, mws_append, mws_puts as, mws_one, mws_one, mw_put b]
theorem mws_puts : ∀ as : List P, P.mws (P.puts th as) = P.mws as
  | [] => rfl
  | a :: as => by
    have h1 := mw_put a
    have h2 := mws_puts as
    show (P.alw (P.put th a) ++ P.alws (P.puts th as)).length = (P.alw a ++ P.alws as).length
    rw [List.length_append, List.length_append]
    exact congr (congrArg _ h1) h2
end
end
mutual
/-- how deep, shut parts not gone into -/
def P.dw : P → Nat
  | .op k as => 1 + (if k = "shut" then 0 else P.dws as)
  | .lt _ as b => 1 + max (P.dws as) (P.dw b)
  | .num _ => 1
  | .nam _ => 1
  | .fn _ => 1
def P.dws : List P → Nat
  | [] => 0
  | a :: as => max (P.dw a) (P.dws as)
end
mutual
theorem dw_deep : ∀ t : P, t.dw ≤ t.deep
  | .num _ => Nat.le_refl _
  | .nam _ => Nat.le_refl _
  | .fn _ => Nat.le_refl _
  | .op k as => by
    have h := dws_deeps as
    show 1 + (if k = "shut" then 0 else P.dws as) ≤ 1 + P.deeps as
    by_cases e : k = "shut"
    · rw [if_pos e]; omega
    · rw [if_neg e]; omega
  | .lt nm as b => by
    have h := dws_deeps as
    have h2 := dw_deep b
    show 1 + max (P.dws as) b.dw ≤ 1 + max (P.deeps as) b.deep
    omega
theorem dws_deeps : ∀ as : List P, P.dws as ≤ P.deeps as
  | [] => Nat.le_refl _
  | a :: as => by
    have h := dws_deeps as
    have h2 := dw_deep a
    show max a.dw (P.dws as) ≤ max a.deep (P.deeps as)
    omega
end
section
variable {th : List (Str × P)}
mutual
theorem dw_put : ∀ t : P, (P.put th t).dw = t.dw
  | .num _ => rfl
  | .nam x => by
    cases h : getT th x with
    | none => rw [put_name0 h]
    | some p => rw [put_name h]; rfl
  | .fn _ => rfl
  | .op k as => by
    show 1 + (if k = "shut" then 0 else P.dws (if k = "shut" then as else P.puts th as)) = 1 + (if k = "shut" then 0 else P.dws as)
    by_cases e : k = "shut"
    · rw [if_pos e, if_pos e]
    · rw [if_neg e, if_neg e, if_neg e, dws_puts as]
  | .lt nm as b => by
    show 1 + max (P.dws (P.puts th as)) (P.put th b).dw = 1 + max (P.dws as) b.dw
    rw [dws_puts as, dw_put b]
theorem dws_puts : ∀ as : List P, P.dws (P.puts th as) = P.dws as
  | [] => rfl
  | a :: as => by
    show max (P.put th a).dw (P.dws (P.puts th as)) = max a.dw (P.dws as)
    rw [dws_puts as, dw_put a]
end
mutual
theorem deep_put {D : Nat} (hD : ∀ x p, (x, p) ∈ th → p.deep ≤ D) : ∀ t : P, (P.put th t).deep ≤ max t.deep (t.dw + D)
  | .num _ => Nat.le_max_left _ _
  | .nam x => by
    cases h : getT th x with
    | none => rw [put_name0 h]; exact Nat.le_max_left _ _
    | some p =>
      obtain ⟨y, m⟩ := getT_mem h
      have := hD y p m
      rw [put_name h]
      show 1 + max p.deep 0 ≤ max 1 (1 + D)
      omega
  | .fn _ => Nat.le_max_left _ _
  | .op k as => by
    have h := deeps_put hD as
    show 1 + P.deeps (if k = "shut" then as else P.puts th as) ≤ max (1 + P.deeps as) (1 + (if k = "shut" then 0 else P.dws as) + D)
    by_cases e : k = "shut"
    · rw [if_pos e]; omega
    · rw [if_neg e, if_neg e]; omega
  | .lt nm as b => by
    have h := deeps_put hD as
    have h2 := deep_put hD b
    show 1 + max (P.deeps (P.puts th as)) (P.put th b).deep ≤ max (1 + max (P.deeps as) b.deep) (1 + max (P.dws as) b.dw + D)
    omega
theorem deeps_put {D : Nat} (hD : ∀ x p, (x, p) ∈ th → p.deep ≤ D) : ∀ as : List P, P.deeps (P.puts th as) ≤ max (P.deeps as) (P.dws as + D)
  | [] => Nat.zero_le _
  | a :: as => by
    have h := deeps_put hD as
    have h2 := deep_put hD a
    show max (P.put th a).deep (P.deeps (P.puts th as)) ≤ max (max a.deep (P.deeps as)) (max a.dw (P.dws as) + D)
    omega
end
mutual
theorem okS_put {F : List Str} (hF : ∀ x p, (x, p) ∈ th → p.okS F) : ∀ t : P, t.okS F → (P.put th t).okS F
  | .num _, _ => True.intro
  | .nam x, h => by
    cases e : getT th x with
    | none => rw [put_name0 e]; exact h
    | some p =>
      obtain ⟨y, m⟩ := getT_mem e
      rw [put_name e]
      exact ⟨List.mem_cons_self, hF y p m, True.intro⟩
  | .fn _, h => h
  | .op k as, h => by
    have h' : (k, as.length) ∈ kinds2 ∧ P.okSs F as := h
    show (k, (if k = "shut" then as else P.puts th as).length) ∈ kinds2 ∧ P.okSs F (if k = "shut" then as else P.puts th as)
    by_cases e : k = "shut"
    · rw [if_pos e]; exact h'
    · rw [if_neg e, puts_len]; exact ⟨h'.1, okSs_put hF as h'.2⟩
  | .lt nm as b, h => by
    have h' : nm.length = as.length ∧ (∀ x, x ∈ nm → nmOk x) ∧ P.okSs F as ∧ P.okS F b := h
    show nm.length = (P.puts th as).length ∧ (∀ x, x ∈ nm → nmOk x) ∧ P.okSs F (P.puts th as) ∧ P.okS F (P.put th b)
    rw [puts_len]
    exact ⟨h'.1, h'.2.1, okSs_put hF as h'.2.2.1, okS_put hF b h'.2.2.2⟩
theorem okSs_put {F : List Str} (hF : ∀ x p, (x, p) ∈ th → p.okS F) : ∀ as : List P, P.okSs F as → P.okSs F (P.puts th as)
  | [], _ => True.intro
  | a :: as, h => ⟨okS_put hF a h.1, okSs_put hF as h.2⟩
end
/-! ### the stack -/
/-- what has been made of these, the last one first: top ahead -/
def stk (th : List (Str × P)) : List P → List P
  | [] => []
  | p :: r => P.put th p :: (stk th r).drop p.win.length
theorem stk_alws : ∀ (n : Nat) (ps R : List P), (P.alws ps).length ≤ n → stk th (P.alws ps ++ R) = P.puts th ps ++ stk th R
  | n, [], R, _ => rfl
  | 0, p :: r, R, h => by
    rw [alws_cons] at h
    exact absurd h (by rw [List.length_cons]; omega)
  | n + 1, p :: r, R, h => by
    rw [alws_cons, List.length_cons] at h
    have h1 : stk th (P.alws (p.win ++ r) ++ R) = P.puts th (p.win ++ r) ++ stk th R := stk_alws n _ R (by omega)
    rw [alws_cons]
    show P.put th p :: (stk th (P.alws (p.win ++ r) ++ R)).drop p.win.length = P.put th p :: (P.puts th r ++ stk th R)
    rw [h1, puts_append, List.append_assoc]
    have e : p.win.length = (P.puts th p.win).length := (puts_len _).symm
    rw [e, List.drop_left]
theorem stk_all (t : P) : stk th t.alw = [P.put th t] := by
  have h := stk_alws (th := th) _ [t] [] (Nat.le_refl _)
  have e : P.alws [t] = t.alw := List.append_nil _
  rw [e, List.append_nil] at h
  exact h
/-- behind each part stands what is within it -/
theorem alws_suffix : ∀ (n : Nat) (ps : List P), (P.alws ps).length ≤ n → ∀ (j : Nat) (o : P), (P.alws ps)[j]? = some o → ∃ R, (P.alws ps).drop (j + 1) = P.alws o.win ++ R
  | n, [], _, j, o, h => by cases h
  | 0, p :: r, hn, _, _, _ => by
    rw [alws_cons] at hn
    exact absurd hn (by rw [List.length_cons]; omega)
  | n + 1, p :: r, hn, j, o, h => by
    rw [alws_cons, List.length_cons] at hn
    rw [alws_cons] at h ⊢
    cases j with
    | zero =>
      obtain rfl : p = o := Option.some.inj h
      exact ⟨P.alws r, by rw [List.drop_succ_cons, List.drop_zero, alws_append]⟩
    | succ j =>
      rw [List.getElem?_cons_succ] at h
      obtain ⟨R, e⟩ := alws_suffix n _ (by omega) j o h
      exact ⟨R, by rw [List.drop_succ_cons]; exact e⟩
/-- ahead of the turn of a part the stack's top is what has been made of what is within it -/
theorem stk_turn {t o : P} {j : Nat} (h : t.alw[j]? = some o) : ∃ S, stk th (t.alw.drop (j + 1)) = P.puts th o.win ++ S ∧ stk th (t.alw.drop j) = P.put th o :: S := by
  have e : P.alws [t] = t.alw := List.append_nil _
  rw [← e] at h ⊢
  obtain ⟨R, hR⟩ := alws_suffix _ [t] (Nat.le_refl _) j o h
  refine ⟨stk th R, ?_, ?_⟩
  · rw [hR]
    exact stk_alws _ _ R (Nat.le_refl _)
  · obtain ⟨hl, hg⟩ := List.getElem?_eq_some_iff.mp h
    have e1 : (P.alws [t]).drop j = o :: (P.alws [t]).drop (j + 1) := by
      rw [List.drop_eq_getElem_cons hl, hg]
    rw [e1]
    show P.put th o :: (stk th ((P.alws [t]).drop (j + 1))).drop o.win.length = _
    rw [hR, stk_alws _ _ R (Nat.le_refl _)]
    have e2 : o.win.length = (P.puts th o.win).length := (puts_len _).symm
    rw [e2, List.drop_left]
theorem stk_len : ∀ L : List P, (stk th L).length ≤ L.length
  | [] => Nat.le_refl _
  | p :: r => by
    have h := stk_len r
    show ((stk th r).drop p.win.length).length + 1 ≤ r.length + 1
    rw [List.length_drop]
    omega
end
theorem win_okS {F : List Str} {t a : P} (h : t.okS F) (m : a ∈ t.win) : a.okS F := by
  cases t with
  | num i => exact nomatch m
  | nam i => exact nomatch m
  | fn i => exact nomatch m
  | op k as =>
    have m' : a ∈ (if k = "shut" then [] else as) := m
    by_cases e : k = "shut"
    · rw [if_pos e] at m'
      exact nomatch m'
    · rw [if_neg e] at m'
      exact okSs_iff.mp (show (k, as.length) ∈ kinds2 ∧ P.okSs F as from h).2 a m'
  | lt nm as b =>
    have h' : nm.length = as.length ∧ (∀ x, x ∈ nm → nmOk x) ∧ P.okSs F as ∧ P.okS F b := h
    rcases List.mem_append.mp (show a ∈ as ++ [b] from m) with m | m
    · exact okSs_iff.mp h'.2.2.1 a m
    · rw [List.mem_singleton.mp m]
      exact h'.2.2.2
theorem win_dw {t a : P} (m : a ∈ t.win) : a.dw + 1 ≤ t.dw := by
  have hm : ∀ as : List P, a ∈ as → a.dw ≤ P.dws as := fun as => by
    induction as with
    | nil => exact fun m => nomatch m
    | cons b r ih =>
      intro m
      show a.dw ≤ max b.dw (P.dws r)
      rcases List.mem_cons.mp m with e | m
      · rw [e]; omega
      · have := ih m
        omega
  cases t with
  | num i => exact nomatch m
  | nam i => exact nomatch m
  | fn i => exact nomatch m
  | op k as =>
    have m' : a ∈ (if k = "shut" then [] else as) := m
    show _ ≤ 1 + (if k = "shut" then 0 else P.dws as)
    by_cases e : k = "shut"
    · rw [if_pos e] at m'
      exact nomatch m'
    · rw [if_neg e] at m' ⊢
      have := hm as m'
      omega
  | lt nm as b =>
    show _ ≤ 1 + max (P.dws as) b.dw
    rcases List.mem_append.mp (show a ∈ as ++ [b] from m) with m | m
    · have := hm as m
      omega
    · rw [List.mem_singleton.mp m]
      omega
theorem alw_okS {F : List Str} {t : P} (h : t.okS F) : ∀ o, o ∈ t.alw → o.okS F := by
  have key : ∀ (n : Nat) (ps : List P), (P.alws ps).length ≤ n → (∀ p, p ∈ ps → p.okS F) → ∀ o, o ∈ P.alws ps → o.okS F := fun n => by
    induction n with
    | zero =>
      intro ps hn _ o m
      have e : P.alws ps = [] := List.eq_nil_of_length_eq_zero (by omega)
      rw [e] at m
      exact nomatch m
    | succ n ih =>
      intro ps hn hp o m
      cases ps with
      | nil => exact nomatch m
      | cons p r =>
        rw [alws_cons] at hn m
        rw [List.length_cons] at hn
        rcases List.mem_cons.mp m with e | m
        · rw [e]; exact hp p List.mem_cons_self
        · refine ih (p.win ++ r) (by omega) (fun q mq => ?_) o m
          rcases List.mem_append.mp mq with mq | mq
          · exact win_okS (hp p List.mem_cons_self) mq
          · exact hp q (List.mem_cons_of_mem _ mq)
  intro o m
  refine key _ [t] (Nat.le_refl _) (fun p mp => by rw [List.mem_singleton.mp mp]; exact h) o ?_
  show o ∈ t.alw ++ []
  rw [List.append_nil]
  exact m
theorem alw_mw {t : P} : ∀ o, o ∈ t.alw → o.mw ≤ t.mw := by
  have key : ∀ (n : Nat) (ps : List P), (P.alws ps).length ≤ n → ∀ o, o ∈ P.alws ps → o.mw ≤ P.mws ps := fun n => by
    induction n with
    | zero =>
      intro ps hn o m
      have e : P.alws ps = [] := List.eq_nil_of_length_eq_zero (by omega)
      rw [e] at m
      exact nomatch m
    | succ n ih =>
      intro ps hn o m
      cases ps with
      | nil => exact nomatch m
      | cons p r =>
        have hm := mws_mem (ts := p :: r) (a := p) List.mem_cons_self
        have e1 : P.mws (p :: r) = P.mws (p.win ++ r) + 1 := by unfold P.mws; rw [alws_cons, List.length_cons]
        rw [alws_cons] at hn m
        rw [List.length_cons] at hn
        rcases List.mem_cons.mp m with e | m
        · rw [e]; exact hm
        · have := ih (p.win ++ r) (by omega) o m
          omega
  intro o m
  have h := key _ [t] (Nat.le_refl _) o (by show o ∈ t.alw ++ []; rw [List.append_nil]; exact m)
  rw [mws_one] at h
  exact h
end Lz

set_option Elab.async false
set_option linter.all false
set_option maxRecDepth 100000
set_option maxHeartbeats 4000000
/-! Parts and programs as they lie in the heap, of whatever kinds. -/
namespace Lz
open PySem PySem.Spec PyProof.Rows L2
section
variable {K : PySem.W.Frag} {H : Hp}
theorem hd_at {v : V} {t : Lz.P} (h : Dp K H v t.data) : ∃ a xs, v = .ref a ∧ SqT K H a (.str t.hd :: xs) ∧ DpAll K H xs t.tl := by
  rw [data_hd] at h
  obtain ⟨a, xs, rfl, ht, hx⟩ := h.tup_of
  cases hx with
  | cons h1 h2 =>
    cases h1
    exact ⟨a, _, rfl, ht, h2⟩
theorem op_atU {v : V} {k : Str} {as : List Lz.P} (h : Dp K H v (Lz.P.op k as).data) : ∃ a xs, v = .ref a ∧ SqT K H a (.str k :: xs) ∧ DpAll K H xs (Lz.P.datas as) := hd_at (t := .op k as) h
theorem str_at {v : V} {t : Lz.P} {x : Str} (h : Dp K H v t.data) (e : t.tl = [.str x]) : ∃ a, v = .ref a ∧ SqT K H a [.str t.hd, .str x] := by
  obtain ⟨a, xs, rfl, ht, hx⟩ := hd_at h
  rw [e] at hx
  cases hx with
  | cons h1 h2 =>
    cases h1
    cases h2
    exact ⟨a, rfl, ht⟩
theorem give_at {v : V} {a b : Lz.P} (h : Dp K H v (Lz.P.op "give" [a, b]).data) : ∃ p va vb, v = .ref p ∧ SqT K H p [.str "give", va, vb] ∧ Dp K H va a.data ∧ Dp K H vb b.data := by
  obtain ⟨p, xs, rfl, ht, hx⟩ := op_atU h
  cases hx with
  | cons h1 h2 =>
    cases h2 with
    | cons h3 h4 =>
      cases h4
      exact ⟨p, _, _, rfl, ht, h1, h3⟩
theorem let_atU {v : V} {nm : List Str} {as : List Lz.P} {b : Lz.P} (h : Dp K H v (Lz.P.lt nm as b).data) : ∃ a r rs vb, v = .ref a ∧ SqT K H a [.str "let", .ref r, vb] ∧ SqT K H r rs ∧ DpAll K H rs (List.zipWith rowD nm (Lz.P.datas as)) ∧ Dp K H vb b.data := by
  obtain ⟨a, xs, rfl, ht, hx⟩ := hd_at h
  cases hx with
  | cons h3 h4 =>
    obtain ⟨r, rs, rfl, hr, hrs⟩ := h3.tup_of
    cases h4 with
    | cons h5 h6 =>
      cases h6
      exact ⟨a, r, rs, _, rfl, ht, hr, hrs, h5⟩
theorem prog_at {v : V} {fs : List Fn} {d : Lz.P} (h : Dp K H v (progD fs d)) : ∃ pr ft rs vd, v = .ref pr ∧ SqT K H pr [.ref ft, vd] ∧ SqT K H ft rs ∧ DpAll K H rs (fs.map fD) ∧ Dp K H vd d.data := by
  obtain ⟨pr, xs, rfl, hpr, hxs⟩ := Dp.tup_of (ds := [.tuple (fs.map fD), d.data]) h
  cases hxs with
  | cons h1 h2 =>
    obtain ⟨ft, rs, rfl, hft, hrs⟩ := h1.tup_of
    cases h2 with
    | cons h3 h4 =>
      cases h4
      exact ⟨pr, ft, rs, _, rfl, hpr, hft, hrs, h3⟩
theorem strs_of : ∀ {ss : List Str} {rs : List V}, DpAll K H rs (ss.map .str) → rs = ss.map V.str
  | [], _, h => by cases h; rfl
  | s :: r, _, h => by
    cases h with
    | cons a b =>
      cases a
      rw [strs_of b]
      rfl
/-- a function's tuple -/
theorem fn_atU {xs : List V} {gs : List Fn} {i : Nat} {x : V} (h : DpAll K H xs (gs.map fD)) (hi : xs[i]? = some x) : ∃ g t r u, gs[i]? = some g ∧ x = .ref t ∧ SqT K H t [.str g.1, .ref r, u] ∧ SqT K H r (g.2.1.map V.str) ∧ Dp K H u g.2.2.data := by
  obtain ⟨e, he, hd⟩ := h.at hi
  rw [List.getElem?_map] at he
  obtain ⟨g, hg, rfl⟩ : ∃ g, gs[i]? = some g ∧ e = fD g := by
    cases e1 : gs[i]? with
    | none => rw [e1] at he; cases he
    | some y => rw [e1] at he; exact ⟨y, rfl, (Option.some.inj he).symm⟩
  obtain ⟨t, zs, rfl, ht, hzs⟩ := Dp.tup_of (ds := [.str g.1, .tuple (g.2.1.map .str), g.2.2.data]) hd
  cases hzs with
  | cons h1 h2 =>
    cases h1
    cases h2 with
    | cons h3 h4 =>
      obtain ⟨r, rs, rfl, hr, hrs⟩ := h3.tup_of
      rw [strs_of hrs] at hr
      cases h4 with
      | cons h5 h6 =>
        cases h6
        exact ⟨g, t, r, _, hg, rfl, ht, hr, h5⟩
theorem part_atU {xs : List V} {ts : List Lz.P} {i : Nat} {v : V} (h : DpAll K H xs (Lz.P.datas ts)) (hi : xs[i]? = some v) : ∃ d, ts[i]? = some d ∧ Dp K H v d.data := by
  obtain ⟨e, he, hd⟩ := h.at hi
  rw [datas_map, List.getElem?_map] at he
  cases ha : ts[i]? with
  | none => rw [ha] at he; cases he
  | some d =>
    rw [ha] at he
    obtain rfl : d.data = e := Option.some.inj he
    exact ⟨d, rfl, hd⟩
theorem row_atU {rs : List V} {nm : List Str} {as : List Lz.P} {i : Nat} {v : V} (h : DpAll K H rs (List.zipWith rowD nm (Lz.P.datas as))) (hi : rs[i]? = some v) : ∃ (t : Addr) (x : Str) (u : V) (d : Lz.P), v = .ref t ∧ SqT K H t [.str x, u] ∧ nm[i]? = some x ∧ as[i]? = some d ∧ Dp K H u d.data := by
  obtain ⟨e, he, hd⟩ := h.at hi
  rw [List.getElem?_zipWith] at he
  cases hx : nm[i]? with
  | none => rw [hx] at he; cases he
  | some x =>
    rw [hx, datas_map, List.getElem?_map] at he
    cases ha : as[i]? with
    | none => rw [ha] at he; cases he
    | some d =>
      rw [ha] at he
      obtain rfl : rowD x d.data = e := Option.some.inj he
      obtain ⟨t, xs, rfl, ht, hxs⟩ := Dp.tup_of (ds := [.str x, d.data]) hd
      cases hxs with
      | cons h1 h2 =>
        cases h1
        cases h2 with
        | cons h3 h4 =>
          cases h4
          exact ⟨t, x, _, d, rfl, ht, rfl, rfl, h3⟩
end
theorem cut_tlU (x : V) (xs : List V) : cutV (x :: xs) (some 1) none = xs := by
  unfold cutV
  rw [HT.sIx_none, show HT.sIx (x :: xs).length 0 (some 1) = min 1 (x :: xs).length from HT.sIx_nat _ _ 1]
  have e : min 1 (x :: xs).length = 1 := by rw [List.length_cons]; omega
  rw [e]
  exact List.take_of_length_le (by show xs.length ≤ (x :: xs).length - 1; rw [List.length_cons]; omega)
theorem not_wholeU (x : V) (xs : List V) : ¬ (HT.sIx (x :: xs).length 0 (some 1) = 0 ∧ HT.sIx (x :: xs).length (x :: xs).length none = (x :: xs).length) := fun h => by
  have e := h.1
  rw [show HT.sIx (x :: xs).length 0 (some 1) = min 1 (x :: xs).length from HT.sIx_nat _ _ 1, List.length_cons] at e
  omega
theorem inU (x : Str) : ∀ xs : List Str, inV (.str x) (xs.map V.str) = decide (x ∈ xs)
  | [] => by
    show false = _
    rw [decide_eq_false (fun m => nomatch m)]
  | y :: r => by
    have e : inV (.str x) ((y :: r).map V.str) = ((y == x) || inV (.str x) (r.map V.str)) := rfl
    rw [e, inU x r, Bool.eq_iff_iff, Bool.or_eq_true, beq_iff_eq, decide_eq_true_iff, decide_eq_true_iff, List.mem_cons]
    exact ⟨fun h => h.elim (fun h => .inl h.symm) .inr, fun h => h.elim (fun h => .inl h.symm) .inr⟩
theorem flatU (xs : List Str) : (xs.map V.str).all flatV = true := by
  rw [List.all_eq_true]
  intro z hz
  obtain ⟨s, _, rfl⟩ := List.mem_map.mp hz
  rfl
theorem progU_fz (fs : List Fn) (d : Lz.P) : fz (progD fs d) = true := by
  show (fzAll (fs.map fD) && (fz d.data && true)) = true
  rw [show fzAll (fs.map fD) = true from fzAll_iff.mpr fun e m => by
    obtain ⟨f, _, rfl⟩ := List.mem_map.mp m
    show (true && (fzAll (f.2.1.map .str) && (fz f.2.2.data && true))) = true
    rw [strs_fz, data_fz]
    rfl, data_fz]
  rfl
theorem fdU_fz (fs : List Fn) : fzAll (fs.map fD) = true := fzAll_iff.mpr fun e m => by
  obtain ⟨f, _, rfl⟩ := List.mem_map.mp m
  show (true && (fzAll (f.2.1.map .str) && (fz f.2.2.data && true))) = true
  rw [strs_fz, data_fz]
  rfl
theorem flenU {fs : List Fn} {d : Lz.P} (h : PrOk fs d) : (fnsOf fs d).length ≤ 9 := by
  have := h.len
  show (fs ++ [askedFn d]).length ≤ 9
  rw [List.length_append, List.length_singleton]
  omega
theorem PrOk.ndf {fs : List Fn} {d : Lz.P} (h : PrOk fs d) : (fs.map (·.1)).Nodup := by
  have q := h.nd
  unfold fnsOf at q
  rw [List.map_append, List.nodup_append] at q
  exact q.1
theorem fns_get {fs : List Fn} {d : Lz.P} {i : Nat} {g : Fn} (h : fs[i]? = some g) : (fnsOf fs d)[i]? = some g := by
  unfold fnsOf
  rw [List.getElem?_append_left (List.getElem?_eq_some_iff.mp h).1]
  exact h
theorem fn_get {fs : List Fn} {f : Str} (h : f ∈ fs.map (·.1)) : ∃ (i : Nat) (g : Fn), fs[i]? = some g ∧ g.1 = f := by
  obtain ⟨g, hg, rfl⟩ := List.mem_map.mp h
  obtain ⟨i, hi⟩ := List.mem_iff_getElem?.mp hg
  exact ⟨i, g, hi, rfl⟩
end Lz

set_option Elab.async false
set_option linter.all false
set_option maxRecDepth 100000
set_option maxHeartbeats 4000000
/-! zip of a tuple and a list. -/
namespace StZ
open PySem PySem.Spec PyProof.Rows L2 RZ
section
variable {P : Program} {w : World} {A : Around} {E : Value → Shared → Prop} {t : Shared}
/-- a tuple's and a list's turn of a zip at q, of the iterators at u and v -/
structure At (h : Heap) (q I O u v a b : Addr) (i j : Nat) (xs ys : Array Value) : Prop where
  u1 : h.IsTupleIter u a i
  v1 : h.IsListIter v b j
  a1 : h.IsTuple a xs
  b1 : h.IsList b ys
/-- what the turn leaves -/
def Kept (h g : Heap) (q O u v : Addr) : Prop := ∀ c o, c ≠ q → c ≠ O → c ≠ u → c ≠ v → h.get? c = some o → g.get? c = some o
theorem one_turn {q I O u v a b : Addr} {i j : Nat} {xs ys : Array Value} {x y m n : Value} {Q : Value → Shared → Prop} (Ap : ZipApart q I O u v a b) (zq : IsZip t.heap q I O .none) (zi : IsPair t.heap I (.ref u) (.ref v)) (zo : IsPair t.heap O m n) (S : At t.heap q I O u v a b i j xs ys) (ex : xs[i]? = some x) (ey : ys[j]? = some y)
    (k : ∀ g, IsZip g q I O (rawInt t.heap.objs.size) → IsPair g O x y → g.IsTupleIter u a (i + 1) → g.IsListIter v b (j + 1) → IsPair g t.heap.objs.size x y → g.objs.size = t.heap.objs.size + 1 → Kept t.heap g q O u v → Q (.ref t.heap.objs.size) { t with heap := g }) :
    wpAny (model P w) A (Builtin.«zip.__next__» ⟨[.ref q], []⟩) (fun f t' => ∃ r, f = .done (.ret r) ∧ Q r t') E t := by
  show wpAny _ _ (field (.ref q) 2 >>= _) _ _ _
  refine wpAny_bind (wpAny_field zq rfl (x := .bool false) rfl ?_); show wpAny _ _ (field (.ref q) 3 >>= _) _ _ _
  refine wpAny_bind (wpAny_field zq rfl (x := .ref I) rfl (wpAny_bind (wpAny_seqItems zi rfl ?_)))
  show wpAny _ _ (Builtin.SmallTypes.ownedTupleIsFree (.ref q) >>= _) _ _ _
  refine wpAny_bind ?_; unfold Builtin.SmallTypes.ownedTupleIsFree
  refine wpAny_bind (wpAny_field zq rfl (x := .none) rfl (wpAny_pure ?_)); simp only [if_true]
  refine wpAny_bind (wpAny_rule (wpAny_bind (wpAny_field zq rfl (x := .ref O) rfl ?_)))
  refine wpAny_bind (wpAny_setField_rec zq (by simp) fun g1 zq1 s1 => ?_)
  have zq1 : IsZip g1 q I O .ellipsis := zq1
  refine wpAny_bind ?_; simp only [List.zipIdx_cons, List.zipIdx_nil, List.forIn_cons, List.forIn_nil]
  -- the tuple's
  refine wpAny_bind (wpAny_bind (wpAny_onRaise ?_)); show wpAny _ _ (Builtin.SmallTypes.nextOf (.ref u) >>= _) _ _ _
  refine wpAny_bind (nextOf_tuple_item (S.u1.extBut s1.extBut Ap.i1z) (S.a1.extBut s1.extBut Ap.l1z) ex fun g2 u2 s2 => wpAny_pure ?_)
  have zo2 : IsPair g2 O m n := s2.extBut _ _ Ap.TOi1 (s1.extBut _ _ Ap.TOz zo)
  refine wpAny_bind (wpAny_seqItems zo2 rfl (wpAny_bind (wpAny_updateSeq_pair zo2 fun g3 zo3 s3 => ?_)))
  have zo3 : IsPair g3 O x n := zo3
  refine wpAny_bind (wpAny_letGo (wpAny_pure ?_))
  -- the list's
  refine wpAny_bind (wpAny_bind (wpAny_onRaise ?_)); show wpAny _ _ (Builtin.SmallTypes.nextOf (.ref v) >>= _) _ _ _
  have v3 := ((S.v1.extBut s1.extBut Ap.i2z).extBut s2.extBut Ap.i12.symm).extBut s3.extBut Ap.TOi2.symm
  have b3 := ((S.b1.extBut s1.extBut Ap.l2z).extBut s2.extBut Ap.l2i1).extBut s3.extBut Ap.l2TO
  refine wpAny_bind (wpAny_nextOf_list_item v3 b3 ey fun g4 v4 s4 => wpAny_pure ?_)
  have zo4 : IsPair g4 O x n := s4.extBut _ _ Ap.TOi2 zo3
  refine wpAny_bind (wpAny_seqItems zo4 rfl (wpAny_bind (wpAny_updateSeq_pair zo4 fun g5 zo5 s5 => ?_)))
  have zo5 : IsPair g5 O x y := zo5
  refine wpAny_bind (wpAny_letGo (wpAny_pure (wpAny_pure (wpAny_bind (wpAny_seqItems zo5 rfl (wpAny_bind (wpAny_newTuple ?_)))))))
  have big : g5.objs.size = t.heap.objs.size := by rw [s5.1, s4.1, s3.1, s2.1, s1.1]
  have zq5 : IsZip g5 q I O .ellipsis := s5.extBut _ _ Ap.TOz.symm (s4.extBut _ _ Ap.i2z.symm (s3.extBut _ _ Ap.TOz.symm (s2.extBut _ _ Ap.i1z.symm zq1)))
  have all5 : Kept t.heap g5 q O u v := fun c o n1 n2 n3 n4 e => s5.extBut _ _ n2 (s4.extBut _ _ n4 (s3.extBut _ _ n2 (s2.extBut _ _ n3 (s1.extBut _ _ n1 e))))
  have u5 := ((u2.extBut s3.extBut Ap.TOi1.symm).extBut s4.extBut Ap.i12).extBut s5.extBut Ap.TOi1.symm
  have v5 := v4.extBut s5.extBut Ap.TOi2.symm
  have ql : q < g5.objs.size := Heap.lt_size zq5
  show wpAny _ _ (Builtin.SmallTypes.ownedTupleHandOut (.ref q) (.ref g5.objs.size) >>= _) _ _ _
  refine wpAny_bind ?_; unfold Builtin.SmallTypes.ownedTupleHandOut
  have zq6 : IsZip (g5.push { cls := .type "tuple", data := .seq #[x, y] }) q I O .ellipsis := Heap.get?_push_of_some _ zq5
  refine wpAny_bind (wpAny_setField_rec zq6 (by simp) fun g7 zq7 s7 => ?_)
  have zq7 : IsZip g7 q I O (rawInt g5.objs.size) := zq7
  refine wpAny_setField_rec zq7 (by simp) fun g8 zq8 s8 => ?_
  have zq8 : IsZip g8 q I O (rawInt g5.objs.size) := zq8
  have up : ∀ c o, c ≠ q → g5.get? c = some o → g8.get? c = some o := fun c o n1 e => s8.extBut _ _ n1 (s7.extBut _ _ n1 (Heap.get?_push_of_some _ e))
  have two8 : IsPair g8 g5.objs.size x y := s8.extBut _ _ (Nat.ne_of_gt ql) (s7.extBut _ _ (Nat.ne_of_gt ql) (Heap.get?_push_size _ rfl))
  have big8 : g8.objs.size = g5.objs.size + 1 := by rw [s8.1, s7.1, Heap.size_push]
  rw [big] at zq8 two8 big8
  refine wpAny_pure ⟨_, rfl, ?_⟩
  show Q (.ref g5.objs.size) _
  rw [big]
  exact k g8 zq8 (up _ _ Ap.TOz zo5) (u5.at fun o e => up _ o Ap.i1z e) (v5.at fun o e => up _ o Ap.i2z e) two8 big8 fun c o n1 n2 n3 n4 e => up c o n1 (all5 c o n1 n2 n3 n4 e)
theorem at_end {q I O u v a b : Addr} {i j : Nat} {xs ys : Array Value} {m n : Value} {Q : Fin → Shared → Prop} (hh : A.handled = none) (Ap : ZipApart q I O u v a b) (zq : IsZip t.heap q I O .none) (zi : IsPair t.heap I (.ref u) (.ref v)) (zo : IsPair t.heap O m n) (S : At t.heap q I O u v a b i j xs ys) (over : xs[i]? = none ∨ ys[j]? = none)
    (k : ∀ g e, Kept t.heap g q O u v → (∃ o, g.get? e = some o ∧ o.cls = .type "StopIteration") → E (.ref e) { t with heap := g }) : wpAny (model P w) A (Builtin.«zip.__next__» ⟨[.ref q], []⟩) Q E t := by
  show wpAny _ _ (field (.ref q) 2 >>= _) _ _ _
  refine wpAny_bind (wpAny_field zq rfl (x := .bool false) rfl ?_); show wpAny _ _ (field (.ref q) 3 >>= _) _ _ _
  refine wpAny_bind (wpAny_field zq rfl (x := .ref I) rfl (wpAny_bind (wpAny_seqItems zi rfl ?_)))
  show wpAny _ _ (Builtin.SmallTypes.ownedTupleIsFree (.ref q) >>= _) _ _ _
  refine wpAny_bind ?_; unfold Builtin.SmallTypes.ownedTupleIsFree
  refine wpAny_bind (wpAny_field zq rfl (x := .none) rfl (wpAny_pure ?_)); simp only [if_true]
  refine wpAny_bind (wpAny_rule (wpAny_bind (wpAny_field zq rfl (x := .ref O) rfl ?_)))
  refine wpAny_bind (wpAny_setField_rec zq (by simp) fun g1 zq1 s1 => ?_)
  have zq1 : IsZip g1 q I O .ellipsis := zq1
  refine wpAny_bind ?_; simp only [List.zipIdx_cons, List.zipIdx_nil, List.forIn_cons, List.forIn_nil]
  refine wpAny_bind (wpAny_bind (wpAny_onRaise ?_)); show wpAny _ _ (Builtin.SmallTypes.nextOf (.ref u) >>= _) _ _ _
  cases ex : xs[i]? with
  | none =>
    refine wpAny_bind (nextOf_tuple_end hh (S.u1.extBut s1.extBut Ap.i1z) (S.a1.extBut s1.extBut Ap.l1z) ex fun g2 e s2 ⟨oe, oe1, oe2⟩ => ?_)
    have zq2 : IsZip g2 q I O .ellipsis := s2 _ _ Ap.i1z.symm zq1
    have ne : e ≠ q := by
      rintro rfl
      rw [zq2] at oe1
      cases oe1
      simp at oe2
    exact wpAny_setField_rec zq2 (by simp) fun g3 _ s3 => k g3 e (fun c o n1 _ n3 _ z => s3.extBut _ _ n1 (s2 _ _ n3 (s1.extBut _ _ n1 z))) ⟨oe, s3.extBut _ _ ne oe1, oe2⟩
  | some x =>
    have ey : ys[j]? = none := over.elim (fun z => by rw [ex] at z; cases z) id
    refine wpAny_bind (nextOf_tuple_item (S.u1.extBut s1.extBut Ap.i1z) (S.a1.extBut s1.extBut Ap.l1z) ex fun g2 u2 s2 => wpAny_pure ?_)
    have zo2 : IsPair g2 O m n := s2.extBut _ _ Ap.TOi1 (s1.extBut _ _ Ap.TOz zo)
    refine wpAny_bind (wpAny_seqItems zo2 rfl (wpAny_bind (wpAny_updateSeq_pair zo2 fun g3 zo3 s3 => ?_)))
    refine wpAny_bind (wpAny_letGo (wpAny_pure ?_))
    refine wpAny_bind (wpAny_bind (wpAny_onRaise ?_)); show wpAny _ _ (Builtin.SmallTypes.nextOf (.ref v) >>= _) _ _ _
    have v3 := ((S.v1.extBut s1.extBut Ap.i2z).extBut s2.extBut Ap.i12.symm).extBut s3.extBut Ap.TOi2.symm
    have b3 := ((S.b1.extBut s1.extBut Ap.l2z).extBut s2.extBut Ap.l2i1).extBut s3.extBut Ap.l2TO
    refine wpAny_bind (wpAny_nextOf_list_end hh v3 b3 ey fun g4 e s4 ⟨oe, oe1, oe2⟩ => ?_)
    have zq4 : IsZip g4 q I O .ellipsis := s4 _ _ Ap.i2z.symm (s3.extBut _ _ Ap.TOz.symm (s2.extBut _ _ Ap.i1z.symm zq1))
    have ne : e ≠ q := by
      rintro rfl
      rw [zq4] at oe1
      cases oe1
      simp at oe2
    exact wpAny_setField_rec zq4 (by simp) fun g5 _ s5 => k g5 e (fun c o n1 n2 n3 n4 z => s5.extBut _ _ n1 (s4 _ _ n4 (s3.extBut _ _ n2 (s2.extBut _ _ n3 (s1.extBut _ _ n1 z))))) ⟨oe, s5.extBut _ _ ne oe1, oe2⟩
theorem next_turn {q I O u v a b : Addr} {i j : Nat} {xs ys : Array Value} {x y m n : Value} {Q : Option Value → Shared → Prop} (Ap : ZipApart q I O u v a b) (zq : IsZip t.heap q I O .none) (zi : IsPair t.heap I (.ref u) (.ref v)) (zo : IsPair t.heap O m n) (S : At t.heap q I O u v a b i j xs ys) (ex : xs[i]? = some x) (ey : ys[j]? = some y)
    (k : ∀ g, IsZip g q I O (rawInt t.heap.objs.size) → IsPair g O x y → g.IsTupleIter u a (i + 1) → g.IsListIter v b (j + 1) → IsPair g t.heap.objs.size x y → g.objs.size = t.heap.objs.size + 1 → Kept t.heap g q O u v → Q (some (.ref t.heap.objs.size)) { t with heap := g }) : wpAny (model P w) A (pyNext (.ref q)) Q E t := by
  have ty : t.TypeIs (.ref q) "zip" := ⟨_, zq, rfl⟩
  unfold pyNext
  refine wpAny_bind (wpAny_attempt (wpAny_callSpecial?_slot (name := Str.ofString "__next__") ty F.slot_zip_next (wpAny_call_entry F.slot_zip_next ty F.entry_zip_next ?_ (F.args_zip_next_1 _))))
  exact one_turn Ap zq zi zo S ex ey fun g k1 k2 k3 k4 k5 k6 k7 => wpAny_pure (k g k1 k2 k3 k4 k5 k6 k7)
theorem next_end {q I O u v a b : Addr} {i j : Nat} {xs ys : Array Value} {m n : Value} {Q : Option Value → Shared → Prop} (hh : A.handled = none) (Ap : ZipApart q I O u v a b) (zq : IsZip t.heap q I O .none) (zi : IsPair t.heap I (.ref u) (.ref v)) (zo : IsPair t.heap O m n) (S : At t.heap q I O u v a b i j xs ys) (over : xs[i]? = none ∨ ys[j]? = none)
    (k : ∀ g, Kept t.heap g q O u v → Q none { t with heap := g }) : wpAny (model P w) A (pyNext (.ref q)) Q E t := by
  have ty : t.TypeIs (.ref q) "zip" := ⟨_, zq, rfl⟩
  unfold pyNext
  refine wpAny_bind (wpAny_attempt (wpAny_callSpecial?_slot (name := Str.ofString "__next__") ty F.slot_zip_next (wpAny_call_entry F.slot_zip_next ty F.entry_zip_next ?_ (F.args_zip_next_1 _))))
  refine at_end hh Ap zq zi zo S over fun g e kk ⟨o, o1, o2⟩ => ?_
  exact wpAny_bind (wpAny_isInstance (T := "StopIteration") (b := true) ⟨o, o1, o2⟩ isSubtype_stop (wpAny_pure (k g kk)))
end
/-! ### its making -/
abbrev m1 (h : Heap) (a : Addr) : Heap := h.push { cls := .type "tuple_iterator", data := .fields #[.ref a, .int 0 0] }
abbrev m2 (h : Heap) (a b : Addr) : Heap := (m1 h a).push { cls := .type "list_iterator", data := .fields #[.ref b, .int 0 0] }
abbrev m3 (h : Heap) (a b : Addr) : Heap := (m2 h a b).push { cls := .type "tuple", data := .seq #[.ref h.objs.size, .ref (m1 h a).objs.size] }
abbrev m4 (h : Heap) (a b : Addr) : Heap := (m3 h a b).push { cls := .type "tuple", data := .seq #[.none, .none] }
abbrev m5 (h : Heap) (a b : Addr) : Heap := (m4 h a b).push { cls := .type "zip", data := .fields #[.none, .bool false, .bool false, .ref (m2 h a b).objs.size, .ref (m3 h a b).objs.size] }
theorem made (a b : Addr) (xs ys : Array Value) : Meets (Builtin.«zip.__new__» ⟨[.type "zip", .ref a, .ref b], []⟩) (fun _ R s => s.heap.IsTuple a xs ∧ s.heap.IsList b ys ∧ R (.ok (.ret (.ref (m4 s.heap a b).objs.size))) { s with heap := m5 s.heap a b }) :=
  .of_wp fun prog w A R s h => by
    obtain ⟨hp, g, d, tk, os⟩ := s
    obtain ⟨ta, tb, r⟩ := h
    have sub := sub_zip
    have La : Heap.IsTuple (Shared.heap ⟨hp, g, d, tk, os⟩) a xs := ta
    have Lb : Heap.IsList (Shared.heap ⟨m1 hp a, g, d, tk, os⟩) b ys := Heap.IsList.push tb _
    wp_walk using wpAny_pyIter_tuple La, wpAny_pyIter_list Lb
    exact ⟨_, rfl, r⟩
theorem call_made {P : Program} {w : World} {A : Around} {E : Value → Shared → Prop} {t : Shared} {a b : Addr} {xs ys : Array Value} {Q : Value → Shared → Prop} (ta : t.heap.IsTuple a xs) (tb : t.heap.IsList b ys)
    (k : ∀ g, IsZip g (t.heap.objs.size + 4) (t.heap.objs.size + 2) (t.heap.objs.size + 3) .none → IsPair g (t.heap.objs.size + 2) (.ref t.heap.objs.size) (.ref (t.heap.objs.size + 1)) → IsPair g (t.heap.objs.size + 3) .none .none → g.IsTupleIter t.heap.objs.size a 0 → g.IsListIter (t.heap.objs.size + 1) b 0 →
      (∀ c o, t.heap.get? c = some o → g.get? c = some o) → Q (.ref (t.heap.objs.size + 4)) { t with heap := g }) : wpAny (model P w) A (call (.type "zip") [.ref a, .ref b]) Q E t := by
  refine callType_new F.called_zip (by decide) (F.typeCall_zip_2 _ _) (F.newCall_zip_2 _ _) (fun obj => F.args_object_init_3 obj _ _) F.entry_zip_new (made a b xs ys) ⟨ta, tb, ?_⟩
  have n1 : (m1 t.heap a).objs.size = t.heap.objs.size + 1 := Heap.size_push ..
  have n2 : (m2 t.heap a b).objs.size = t.heap.objs.size + 2 := by rw [Heap.size_push, n1]
  have n3 : (m3 t.heap a b).objs.size = t.heap.objs.size + 3 := by rw [Heap.size_push, n2]
  have n4 : (m4 t.heap a b).objs.size = t.heap.objs.size + 4 := by rw [Heap.size_push, n3]
  have up : ∀ {h : Heap} {c : Addr} {o o' : Obj}, h.get? c = some o → (h.push o').get? c = some o := fun e => Heap.get?_push_of_some _ e
  have e5 : (m5 t.heap a b).get? (m4 t.heap a b).objs.size = some _ := Heap.get?_push_size _ rfl
  have e4 : (m5 t.heap a b).get? (m3 t.heap a b).objs.size = some _ := up (Heap.get?_push_size _ rfl)
  have e3 : (m5 t.heap a b).get? (m2 t.heap a b).objs.size = some _ := up (up (Heap.get?_push_size _ rfl))
  have e2 : (m5 t.heap a b).get? (m1 t.heap a).objs.size = some _ := up (up (up (Heap.get?_push_size _ rfl)))
  have e1 : (m5 t.heap a b).get? t.heap.objs.size = some _ := up (up (up (up (Heap.get?_push_size _ rfl))))
  show _ ∧ _
  rw [n2, n3, n4] at e5
  rw [n1, n2] at e3
  rw [n3] at e4
  rw [n1] at e2
  rw [n4]
  exact ⟨⟨_, e5, rfl⟩, k _ e5 e3 e4 ⟨_, e1, rfl, rfl⟩ ⟨_, e2, rfl, rfl⟩ fun c o z => up (up (up (up (up z))))⟩
end StZ

set_option Elab.async false
set_option linter.all false
set_option maxRecDepth 100000
set_option maxHeartbeats 4000000
/-! The layer's rule for zip of a tuple and a list. -/
namespace StZ
open PySem PySem.Spec PyProof.Rows L2 RZ
/-- the tuple at a and the list at b, as they stand at each turn -/
def Itm (K : PySem.W.Frag) (a b : Addr) : It where
  go i H := ∃ (xs ys : List V) (x y : V), SqT K H a xs ∧ SqL K H b ys ∧ xs[i]? = some x ∧ ys[i]? = some y
  yld i H v H' := ∃ T x y, v = .ref T ∧ H T = none ∧ H' = upd H T (.tup [x, y]) ∧ (∀ xs, SqT K H a xs → xs[i]? = some x) ∧ ∀ ys, SqL K H b ys → ys[i]? = some y
  stop i H := ∃ xs ys : List V, SqT K H a xs ∧ SqL K H b ys ∧ (xs.length ≤ i ∨ ys.length ≤ i)
/-- how the five objects of a zip stand ahead of turn i -/
def Stand (a b z TI TO u v : Addr) (i : Nat) (h : Heap) : Prop := IsZip h z TI TO .none ∧ IsPair h TI (.ref u) (.ref v) ∧ (∃ x y, IsPair h TO x y) ∧ h.IsTupleIter u a i ∧ h.IsListIter v b i
theorem five {c z TI TO u v : Addr} (h : c ∈ [z, TI, TO, u, v]) : c = z ∨ c = TI ∨ c = TO ∨ c = u ∨ c = v := by simpa using h
theorem stand_some {a b z TI TO u v c : Addr} {i : Nat} {h : Heap} (s : Stand a b z TI TO u v i h) (hc : c ∈ [z, TI, TO, u, v]) : ∃ o, h.get? c = some o ∧ ∀ w, o.data ≠ .cell w := by
  obtain ⟨hz, hi, ⟨x, y, ho⟩, ⟨o1, e1, _, d1⟩, ⟨o2, e2, _, d2⟩⟩ := s
  rcases five hc with q | q | q | q | q <;> subst q
  · exact ⟨_, hz, fun w q => nomatch q⟩
  · exact ⟨_, hi, fun w q => nomatch q⟩
  · exact ⟨_, ho, fun w q => nomatch q⟩
  · exact ⟨o1, e1, fun w q => by rw [d1] at q; cases q⟩
  · exact ⟨o2, e2, fun w q => by rw [d2] at q; cases q⟩
theorem kept_but {h g : Heap} {q TI O u v : Addr} (k : Kept h g q O u v) : ∀ c o, c ∉ [q, TI, O, u, v] → h.get? c = some o → g.get? c = some o :=
  fun c o n e => k c o (fun z => n (by simp [z])) (fun z => n (by simp [z])) (fun z => n (by simp [z])) (fun z => n (by simp [z])) e
theorem turn_mix {P : Program} {w : World} {K : PySem.W.Frag} {elts : List Expr} {kk : Nat} {tpos : Pos} {a b z TI TO u v : Addr} (D : ZipApart z TI TO u v a b) :
    Turn P w K (.Tuple elts kk tpos) (Itm K a b) [z, TI, TO, u, v] z (Stand a b z TI TO u v) where
  mem := by simp
  obj := fun i h st c hc => stand_some st hc
  keep := fun i h h' ⟨h1, h2, ⟨x, y, h3⟩, h4, h5⟩ k => ⟨k z (by simp) _ h1, k TI (by simp) _ h2, ⟨x, y, k TO (by simp) _ h3⟩, h4.at fun o q => k u (by simp) o q, h5.at fun o q => k v (by simp) o q⟩
  item := by
    rintro X rfl rfl rfl hc i pins s σ H E I hf st ⟨xs, ys, x, y, qx, qy, ex, ey⟩
    have all := fun c hc => stand_some st (c := c) hc
    obtain ⟨hz, hi, ⟨x0, y0, ho⟩, h1, h2⟩ := st
    obtain ⟨us, rv, p, _⟩ := I.tuple qx
    obtain ⟨vs, rv2, p2, _⟩ := I.list qy
    obtain ⟨m, hm, rm⟩ := rv.get ex
    obtain ⟨n, hn, rn⟩ := rv2.get ey
    have S : At s.heap z TI TO u v a b i i us.toArray vs.toArray := ⟨h1, h2, p, p2.isList⟩
    refine next_turn D hz hi ho S (x := m) (y := n) (by simpa using hm) (by simpa using hn) fun g z' o' u' v' nw sz k => ⟨_, rfl, ?_⟩
    refine wpAny_letOwnedTupleGo_zip (s := { s with heap := g }) z' fun g2 z2 sb => ?_
    have lz : z < s.heap.objs.size := Heap.lt_size hz
    have nw2 : g2.get? s.heap.objs.size = some { cls := .type "tuple", data := .seq #[m, n] } := (sb.2 _ (Nat.ne_of_gt lz)).trans nw
    have ok : ObjOk X.prog X.w (upd H s.heap.objs.size (.tup [x, y])) g2 s.heap.objs.size (.tup [x, y]) := ⟨by show 2 ≤ sizeLine; decide, [m, n], .cons rm (.cons rn .nil), ⟨_, nw2, rfl, _, rfl⟩⟩
    have I2 : Inv X pins σ (upd H s.heap.objs.size (.tup [x, y])) { s with heap := g2 } :=
      I.turnedNew (t' := s.toks) (ch := [z, TI, TO, u, v]) (fun c o hb q => (sb.2 c fun e => hb (by simp [e])).trans (kept_but k c o hb q)) hf (Nat.le_refl _) ok
    refine ⟨.ref s.heap.objs.size, _, I2, rfl, ⟨_, x, y, rfl, I.hok.fresh (Nat.le_refl _), rfl, fun l hl => (I.tuple_inj hl qx).symm ▸ ex, fun l hl => (I.list_inj hl qy).symm ▸ ey⟩, ⟨z2, ?_, ⟨m, n, (sb.2 _ D.TOz).trans o'⟩, ?_, ?_⟩, fun c hc => ?_⟩
    · exact (sb.2 _ D.TIz).trans (k _ _ D.TIz D.TITO D.TIi1 D.TIi2 hi)
    · exact u'.at fun o q => (sb.2 _ D.i1z).trans q
    · exact v'.at fun o q => (sb.2 _ D.i2z).trans q
    · obtain ⟨o, eo, _⟩ := all c hc
      rw [upd_ne (Nat.ne_of_lt (Heap.lt_size eo))]
      exact (hf c hc).1
  done := by
    rintro X rfl rfl rfl hc i pins s σ H E I hf ⟨hz, hi, ⟨x0, y0, ho⟩, h1, h2⟩ ⟨xs, ys, qx, qy, over⟩
    obtain ⟨us, rv, p, _⟩ := I.tuple qx
    obtain ⟨vs, rv2, p2, _⟩ := I.list qy
    have l1 := rv.length
    have l2 := rv2.length
    have S : At s.heap z TI TO u v a b i i us.toArray vs.toArray := ⟨h1, h2, p, p2.isList⟩
    have ov : us.toArray[i]? = none ∨ vs.toArray[i]? = none := over.imp (fun q => by simp; omega) (fun q => by simp; omega)
    exact next_end (I.ok.hd hc) D hz hi ho S ov fun g k => ⟨rfl, I.turnedL (t' := s.toks) (ch := [z, TI, TO, u, v]) (kept_but k) hf⟩
  self := fun A i s Q E st h => wpAny_pyIter_zip st.1 h
def iMix (K : PySem.W.Frag) (ta : TA) : TI := fun σ H R => ta σ H fun vs H1 => ∃ a b xs ys, vs = [.ref a, .ref b] ∧ SqT K H1 a xs ∧ SqL K H1 b ys ∧ R (Itm K a b) H1
theorem pi_mix {X : Cx} {e e2 : Expr} {ta : TA} {p pos tpos : Pos} {elts : List Expr} {kk : Nat} (hg : Gl X "zip") (hm : X.mg "zip" = none) (ha : PA X [e, e2] ta)
    (hs : starEach [e, e2] X.env = (false, eval e X.env) :: starEach [e2] X.env := by rfl) (hpl : (backTo pos (starEach [e2] X.env)).any (·.1) = false := by rfl) :
    PI X (.Tuple elts kk tpos) (.Call (.Name "zip" p) [e, e2] [] pos) (iMix X.K ta) := by
  refine ⟨fun pins s σ H R I h => Call_ (ld_blt I hg hm PyProof.Rows.boot_zip (PyProof.Rows.callWith_type1 (thn (ha.run pos pins s σ H _ I h) fun us s1 ⟨vs, H1, I1, r1, q1⟩ => ?_) hs hpl))⟩
  obtain ⟨a, b, xs, ys, rfl, qx, qy, q⟩ := q1
  cases r1 with
  | cons r rr =>
    cases rr with
    | cons r' rr =>
      cases rr
      cases r
      cases r'
      obtain ⟨m1, rv, p1, _⟩ := I1.tuple qx
      obtain ⟨m2, rv2, p2, _⟩ := I1.list qy
      obtain ⟨o1, ho1, _⟩ := id p1
      refine call_made (show s1.heap.IsTuple a m1.toArray from p1) p2.isList fun g hz hi ho h1 h2 k => wpAny_pyIter_zip hz ?_
      have I2 : Inv X pins σ H1 { s1 with heap := g } := I1.kept (t' := s1.toks) k
      refine ⟨s1.heap.objs.size + 4, [s1.heap.objs.size + 4, s1.heap.objs.size + 2, s1.heap.objs.size + 3, s1.heap.objs.size, s1.heap.objs.size + 1], _, _, H1, rfl, I2, turn_mix (PySem.W.ktu_apart s1.heap.objs.size a b (Heap.lt_size ho1) p2.lt), ⟨hz, hi, ⟨_, _, ho⟩, h1, h2⟩, fun c hc => ?_, q⟩
      have le : s1.heap.objs.size ≤ c := by
        rcases five hc with e | e | e | e | e <;> rw [e] <;> first | exact Nat.le_refl _ | exact Nat.le_add_right _ _
      exact I1.fpOk le (I1.hok.fresh le)
theorem walk_mix {K : PySem.W.Frag} {a b : Addr} {xs ys : List V} {n : Nat} (hn : n = min xs.length ys.length) : Walk (Itm K a b) n (fun H => SqT K H a xs ∧ SqL K H b ys) (YPair (fun i => xs[i]?) (fun i => ys[i]?)) where
  goes i H hi q := ⟨xs, ys, xs[i]'(by omega), ys[i]'(by omega), q.1, q.2, by simp [show i < xs.length by omega], by simp [show i < ys.length by omega]⟩
  stops H q := ⟨xs, ys, q.1, q.2, by omega⟩
  yields i H v H' hi q y := by
    obtain ⟨T, x, z, h1, h2, h3, h4, h5⟩ := y
    exact ⟨T, x, z, h1, h2, h3, h4 xs q.1, h5 ys q.2⟩
end StZ

set_option Elab.async false
set_option linter.all false
set_option maxRecDepth 100000
set_option maxHeartbeats 4000000
/-! Dicts of closed parts; data compared as deep as putting in makes them. -/
namespace L2
open PySem PySem.Spec PyProof.Rows Lz
/-! ### tuples are kept, whatever becomes of lists and dicts -/
def Tk (K : PySem.W.Frag) (H H' : Hp) : Prop := ∀ a xs, SqT K H a xs → SqT K H' a xs
section
variable {K : PySem.W.Frag} {H H1 H' : Hp} {S : List Addr}
theorem Tk.of (k : Kp S H H') : Tk K H H' := fun _ _ h => k.sqT h
theorem Tk.trans (h : Tk K H H1) (k : Tk K H1 H') : Tk K H H' := fun a xs q => k a xs (h a xs q)
theorem Tk.put {a : Addr} {kvs : List (Key × V)} {o : HO} (h : H a = some (.dK kvs)) : Tk K H (upd H a o) := fun b xs q => by
  have ne : ∀ u, H b = some u → (∀ l, u ≠ HO.dK l) → b ≠ a := fun u e n z => n kvs (Option.some.inj ((by rw [← z]; exact e.symm : some u = H a).trans h))
  rcases q with (q | ⟨o', q⟩) | q
  · exact .inl (.inl ((upd_ne (ne _ q fun _ e => nomatch e)).trans q))
  · exact .inl (.inr ⟨o', (upd_ne (ne _ q fun _ e => nomatch e)).trans q⟩)
  · exact .inr q
mutual
theorem Dp.keepT (k : Tk K H H') : ∀ (d : PyData) (v : V), fz d = true → Dp K H v d → Dp K H' v d
  | .none, _, _, h => by cases h; exact .non
  | .bool b, _, _, h => by cases h; exact .bl b
  | .int i, _, _, h => by cases h; exact .int i
  | .str x, _, _, h => by cases h; exact .str x
  | .list ds, _, f, _ => by
    have : false = true := f
    cases this
  | .tuple ds, _, f, h => by
    cases h with
    | tup hs ha => exact .tup (k _ _ hs) (Dp.keepTAll k ds _ f ha)
  | .dict _, _, _, h => by cases h
theorem Dp.keepTAll (k : Tk K H H') : ∀ (ds : List PyData) (vs : List V), fzAll ds = true → DpAll K H vs ds → DpAll K H' vs ds
  | [], _, _, h => by cases h; exact .nil
  | d :: ds, _, f, h => by
    have f' : fz d = true ∧ fzAll ds = true := by
      have : (fz d && fzAll ds) = true := f
      rwa [Bool.and_eq_true] at this
    cases h with
    | cons h1 h2 => exact .cons (Dp.keepT k d _ f'.1 h1) (Dp.keepTAll k ds _ f'.2 h2)
end
end
end L2
namespace Lz
open PySem PySem.Spec PyProof.Rows L2
/-! ### closed parts by names -/
inductive TdAll (K : PySem.W.Frag) (H : Hp) : List (Key × V) → List (Str × P) → Prop
  | nil : TdAll K H [] []
  | cons {x : Str} {v : V} {p : P} {kvs : List (Key × V)} {th : List (Str × P)} : Dp K H v p.data → TdAll K H kvs th → TdAll K H ((.inr x, v) :: kvs) ((x, p) :: th)
section
variable {K : PySem.W.Frag} {H H' : Hp} {kvs : List (Key × V)} {th : List (Str × P)}
theorem TdAll.keepT (k : Tk K H H') (h : TdAll K H kvs th) : TdAll K H' kvs th := by
  induction h with
  | nil => exact .nil
  | cons a _ ih => exact .cons (Dp.keepT k _ _ (data_fz _) a) ih
theorem TdAll.length (h : TdAll K H kvs th) : kvs.length = th.length := by
  induction h with
  | nil => rfl
  | cons _ _ ih => rw [List.length_cons, List.length_cons, ih]
theorem TdAll.get (h : TdAll K H kvs th) (x : Str) : (∃ v p, valV kvs (.inr x) = some v ∧ getT th x = some p ∧ Dp K H v p.data) ∨ (valV kvs (.inr x) = none ∧ getT th x = none) := by
  induction h with
  | nil => exact .inr ⟨rfl, rfl⟩
  | @cons y v p kvs th a _ ih =>
    by_cases e : y = x
    · subst e
      refine .inl ⟨v, p, valV_pos rfl, ?_, a⟩
      unfold getT
      rw [List.find?_cons, decide_eq_true (show (y, p).1 = y from rfl)]
      rfl
    · have e1 : valV ((.inr y, v) :: kvs) (Sum.inr x : Key) = valV kvs (.inr x) := valV_neg fun q => e (Sum.inr.inj q)
      have e2 : getT ((y, p) :: th) x = getT th x := by
        unfold getT
        rw [List.find?_cons, decide_eq_false (show ¬ (y, p).1 = x from e)]
      rw [e1, e2]
      exact ih
theorem TdAll.ref (h : TdAll K H kvs th) : ∀ q ∈ kvs, ∃ a, q.2 = .ref a := by
  induction h with
  | nil => exact fun _ m => nomatch m
  | @cons x v p kvs th a _ ih =>
    intro q m
    rcases List.mem_cons.mp m with e | m
    · rw [e]
      obtain ⟨b, _, rfl, _⟩ := hd_at a
      exact ⟨b, rfl⟩
    · exact ih q m
/-- one more, or another one in its place -/
theorem TdAll.put (h : TdAll K H kvs th) {x : Str} {v : V} {p : P} (hv : Dp K H v p.data) : ∃ th', TdAll K H (putK kvs (.inr x) v) th' ∧ ∀ y q, (y, q) ∈ th' → q = p ∨ (y, q) ∈ th := by
  unfold putK
  by_cases c : (kvs.any fun kv => decide (kv.1 = (Sum.inr x : Key))) = true
  · rw [if_pos c]
    clear c
    induction h with
    | nil => exact ⟨[], .nil, fun _ _ m => nomatch m⟩
    | @cons y u r kvs th a _ ih =>
      obtain ⟨t', h1, h2⟩ := ih
      by_cases e : (Sum.inr y : Key) = .inr x
      · refine ⟨(y, p) :: t', ?_, fun z q m => ?_⟩
        · rw [List.map_cons, if_pos e]
          exact .cons hv h1
        · rcases List.mem_cons.mp m with e | m
          · exact .inl (Prod.mk.inj e).2
          · exact (h2 z q m).imp id (List.mem_cons_of_mem _)
      · refine ⟨(y, r) :: t', ?_, fun z q m => ?_⟩
        · rw [List.map_cons, if_neg e]
          exact .cons a h1
        · rcases List.mem_cons.mp m with e | m
          · exact .inr (e ▸ List.mem_cons_self)
          · exact (h2 z q m).imp id (List.mem_cons_of_mem _)
  · rw [if_neg c]
    clear c
    induction h with
    | nil => exact ⟨[(x, p)], .cons hv .nil, fun y q m => .inl (Prod.mk.inj (List.mem_singleton.mp m)).2⟩
    | @cons y u r kvs th a _ ih =>
      obtain ⟨t', h1, h2⟩ := ih
      refine ⟨(y, r) :: t', .cons a h1, fun z q m => ?_⟩
      rcases List.mem_cons.mp m with e | m
      · exact .inr (e ▸ List.mem_cons_self)
      · exact (h2 z q m).imp id (List.mem_cons_of_mem _)
theorem nodup_put {κ : Type} [DecidableEq κ] {kvs : List (κ × V)} {k : κ} {v : V} (h : (kvs.map (·.1)).Nodup) : ((putK kvs k v).map (·.1)).Nodup := by
  unfold putK
  by_cases c : (kvs.any fun kv => decide (kv.1 = k)) = true
  · rw [if_pos c, List.map_map]
    have e : (kvs.map ((·.1) ∘ fun kv => if kv.1 = k then (kv.1, v) else kv)) = kvs.map (·.1) := List.map_congr_left fun kv _ => by
      show (if kv.1 = k then (kv.1, v) else kv).1 = kv.1
      by_cases e : kv.1 = k
      · rw [if_pos e]
      · rw [if_neg e]
    rw [e]
    exact h
  · rw [if_neg c, List.map_append, List.nodup_append]
    refine ⟨h, List.pairwise_singleton _ _, fun a ha b hb e => c ?_⟩
    obtain ⟨kv, hk, rfl⟩ := List.mem_map.mp ha
    have hb' : b = k := List.mem_singleton.mp hb
    exact List.any_eq_true.mpr ⟨kv, hk, decide_eq_true (e.trans hb')⟩
/-- a dict of closed parts -/
structure TD (K : PySem.W.Frag) (H : Hp) (a : Addr) (kvs : List (Key × V)) (th : List (Str × P)) : Prop where
  at' : H a = some (.dK kvs)
  all : TdAll K H kvs th
theorem TD.keep {S : List Addr} {a : Addr} (k : Kp S H H') (h : TD K H a kvs th) : TD K H' a kvs th := ⟨k a _ h.at' fun _ _ e => (nomatch e), h.all.keepT (.of k)⟩
theorem TD.new {a : Addr} (h : H a = none) : TD K (upd H a (.dK [])) a [] [] := ⟨upd_same, .nil⟩
theorem TD.get {a : Addr} (h : TD K H a kvs th) (x : Str) : (∃ v p, DGet H a (.str x) (some v) ∧ getT th x = some p ∧ Dp K H v p.data) ∨ (DGet H a (.str x) none ∧ getT th x = none) := by
  rcases h.all.get x with ⟨v, p, e1, e2, e3⟩ | ⟨e1, e2⟩
  · exact .inl ⟨v, p, .inl ⟨kvs, .inr x, .inl h.at', rfl, e1.symm⟩, e2, e3⟩
  · exact .inr ⟨.inl ⟨kvs, .inr x, .inl h.at', rfl, e1.symm⟩, e2⟩
end
/-! ### rules -/
section
variable {X : Cx} {K : PySem.W.Frag}
/-- two dicts with the same objects -/
def rNeSame : R2 := fun x y H Q => ∃ a b ks, x = .ref a ∧ y = .ref b ∧ H a = some (.dK ks) ∧ H b = some (.dK ks) ∧ (ks.map (·.1)).Nodup ∧ (∀ p ∈ ks, ∃ c, p.2 = .ref c) ∧ Q (.bl false) H
theorem hits_ref {κ : Type} [DecidableEq κ] {A : Around} {s : Shared} {kvs : List (κ × V)} {vb : List (κ × Value)} (rb : KV kvs vb) {ks : List (κ × V)} {va : List (κ × Value)} (ra : KV ks va) :
    (∀ p ∈ ks, valV kvs p.1 = some p.2 ∧ ∃ c, p.2 = .ref c) → PySem.W.KeqHits A s vb va true := by
  unfold KV at ra
  induction ra with
  | nil => exact fun _ => .nil
  | @cons p q ps qs h t ih =>
    intro hp
    obtain ⟨h1, h2⟩ := h
    obtain ⟨e, c, f⟩ := hp p List.mem_cons_self
    have rr : RelO (some p.2) (valueAt vb p.1) := by rw [← e]; exact rb.val p.1
    obtain ⟨y, hy, ry⟩ := rr.some_of
    obtain ⟨k, v⟩ := q
    have h1' : p.1 = k := h1
    rw [h1'] at hy
    rw [f] at ry h2
    have same : SeqAt.EqAt A s v y true := by
      cases (show v = Value.ref c from h2)
      cases (show y = Value.ref c from ry)
      exact SeqAt.EqAt.same _
    show PySem.W.KeqHits A s vb ((k, v) :: qs) (true && true)
    exact .hit hy same (ih fun p' hm => hp p' (List.mem_cons_of_mem _ hm))
theorem op_neSame (hu : X.A.units < cLine) : OpR X (compareOp .NotEq) rNeSame := by
  intro pins s σ H x y v u Q I rx ry h
  obtain ⟨a, b, ks, rfl, rfl, ea, eb, nd, fl, q⟩ := h
  obtain rfl : v = Value.ref a := rx
  obtain rfl : u = Value.ref b := ry
  obtain ⟨_, ya, va, ra, da⟩ := (show ObjOk X.prog X.w H s.heap a (.dK ks) from I.hok a _ ea)
  obtain ⟨_, yb, vb, rb, db⟩ := (show ObjOk X.prog X.w H s.heap b (.dK ks) from I.hok b _ eb)
  have hl : va.length = vb.length := ra.length.symm.trans rb.length
  exact PySem.W.keq_ne (knd := mixKind X.prog X.w) (r := true) ya yb da db hu (fun _ => hits_ref rb ra fun p hp => ⟨val_nodup nd p hp, fl p hp⟩) (fin_bl I q (by simp [hl]))
/-- as deep as a hundred and fifty -/
def big (d : PyData) : Bool := d.canLay0 && decide (d.depth ≤ 150)
theorem big_room {A : Around} {d e : PyData} (h : big d = true) (hu : A.units + 150 < cLine) : A.units + min d.depth e.depth < cLine := by
  have h1 : d.depth ≤ 150 := of_decide_eq_true (Bool.and_eq_true_iff.mp h).2
  have h2 : min d.depth e.depth ≤ d.depth := Nat.min_le_left _ _
  omega
def rEqBig (K : PySem.W.Frag) : R2 := fun x y H Q => ∃ d e, Dp K H x d ∧ Dp K H y e ∧ big d = true ∧ big e = true ∧ Q (.bl (PyData.eqv d e)) H
def rNeBig (K : PySem.W.Frag) : R2 := fun x y H Q => ∃ d e, Dp K H x d ∧ Dp K H y e ∧ big d = true ∧ big e = true ∧ Q (.bl (!PyData.eqv d e)) H
theorem op_eqBig (h : X.K = K) (hu : X.A.units + 150 < cLine) : OpR X (compareOp .Eq) (rEqBig K) := by
  subst h
  intro pins s σ H x y v u Q I rx ry h
  obtain ⟨d, e, hd, he, sd, se, q⟩ := h
  obtain ⟨as, r1⟩ := Dp.reads I d x v hd rx
  obtain ⟨bs, r2⟩ := Dp.reads I e y u he ry
  exact SeqAt.compareEq_reads r1 r2 (Bool.and_eq_true_iff.mp sd).1 (Bool.and_eq_true_iff.mp se).1 (big_room sd hu) ⟨.bl _, H, I, rfl, q⟩
theorem op_neBig (h : X.K = K) (hu : X.A.units + 150 < cLine) : OpR X (compareOp .NotEq) (rNeBig K) := by
  subst h
  intro pins s σ H x y v u Q I rx ry h
  obtain ⟨d, e, hd, he, sd, se, q⟩ := h
  obtain ⟨as, r1⟩ := Dp.reads I d x v hd rx
  obtain ⟨bs, r2⟩ := Dp.reads I e y u he ry
  exact SeqAt.compareNe_reads r1 r2 (Bool.and_eq_true_iff.mp sd).1 (Bool.and_eq_true_iff.mp se).1 (big_room sd hu) ⟨.bl _, H, I, rfl, q⟩
theorem big_part {F : List Str} {t : P} (h : t.okS F) (hd : t.deep ≤ 50) : big t.data = true := by
  unfold big
  have h1 := data_depth t
  rw [data_layS t h, Bool.true_and]
  exact decide_eq_true (by omega)
theorem units150 {k : Nat} {A : Around} (r : Room k A) : A.units + 150 < cLine := by have := r.un; omega
theorem units1 {k : Nat} {A : Around} (r : Room k A) : A.units + 1 < cLine := by have := r.un; omega
theorem pi_mixK {e e2 : Expr} {ta : TA} {p pos tpos : Pos} {elts : List Expr} {kk : Nat} (h : X.K = K) (hg : Gl X "zip") (hm : X.mg "zip" = none) (ha : PA X [e, e2] ta)
    (hs : starEach [e, e2] X.env = (false, eval e X.env) :: starEach [e2] X.env := by rfl) (hpl : (backTo pos (starEach [e2] X.env)).any (·.1) = false := by rfl) :
    PI X (.Tuple elts kk tpos) (.Call (.Name "zip" p) [e, e2] [] pos) (StZ.iMix K ta) := by subst h; exact StZ.pi_mix hg hm ha hs hpl
theorem pi_revK {tg e : Expr} {ta : TA} {p pos : Pos} (h : X.K = K) (hg : Gl X "reversed") (hm : X.mg "reversed" = none) (ha : PA X [e] ta) (hs : starEach [e] X.env = [(false, eval e X.env)] := by rfl) : PI X tg (.Call (.Name "reversed" p) [e] [] pos) (iRev K ta) := by subst h; exact pi_reversed hg hm ha hs
theorem pe_dclearK {o : Expr} {to : TE} {apos cpos : Pos} (h : X.K = K) (ho : PE X o to) (hbase : attributeBase o "clear" X.env (eval o X.env) = eval o X.env := by rfl) (hline : (apos.endLine == cpos.line) = true := by rfl) : PE X (.Call (.Attribute o "clear" apos) [] [] cpos) (tBM0 K "dict" rDClear to) := by subst h; exact pe_dclear ho hbase hline
def rCopy : List V → Hp → VK → Prop := fun xs H Q => ∃ (a : Addr) (kvs : List (Key × V)), xs = [.ref a] ∧ Rd H a (.dK kvs) ∧ ∀ p, H p = none → Q (.ref p) (upd H p (.dK kvs))
theorem call_copy : CallR X (.type "dict") rCopy := call_dictD
end
end Lz

set_option Elab.async false
set_option linter.all false
set_option maxRecDepth 100000
set_option maxHeartbeats 8000000
namespace Lz
open PySem PySem.Spec PyProof.Rows L2
/-- the kinds that PARTS_OF has, shut is none of them -/
structure PO2 (K : PySem.W.Frag) (pd : Addr) : Prop where
  po : PO K pd
  shut : PySem.W.nsIn K pd "shut" = some none
theorem kinds_of2 {k : Str} {n : Nat} (h : (k, n) ∈ kinds2) (hn : k ≠ "shut") : (k, n) ∈ kinds := by
  rcases List.mem_cons.mp h with e | m
  · exact absurd (Prod.mk.inj e).1 hn
  · exact m
theorem win_cases {F : List Str} {t : Lz.P} (h : t.okS F) : (t.win = [] ∧ (t.hd = "number" ∨ t.hd = "name" ∨ t.hd = "fun" ∨ t.hd = "shut")) ∨ (∃ k as, t = .op k as ∧ k ≠ "shut" ∧ (k, as.length) ∈ kinds) ∨ ∃ nm as b, t = .lt nm as b ∧ nm.length = as.length := by
  cases t with
  | num i => exact .inl ⟨rfl, .inl rfl⟩
  | nam x => exact .inl ⟨rfl, .inr (.inl rfl)⟩
  | fn x => exact .inl ⟨rfl, .inr (.inr (.inl rfl))⟩
  | op k as =>
    by_cases e : k = "shut"
    · exact .inl ⟨if_pos e, .inr (.inr (.inr e))⟩
    · exact .inr (.inl ⟨k, as, rfl, e, kinds_of2 (show (k, as.length) ∈ kinds2 ∧ Lz.P.okSs F as from h).1 e⟩)
  | lt nm as b => exact .inr (.inr ⟨nm, as, b, rfl, (show nm.length = as.length ∧ _ from h).1⟩)
theorem win_op {k : Str} {as : List Lz.P} (h : k ≠ "shut") : (Lz.P.op k as).win = as := if_neg h
theorem win_len {t : Lz.P} (h : t.mw ≤ 60000) : t.win.length ≤ 59999 := by
  have h1 := mws_len t.win
  have h2 := mw_win t
  omega
def spWin (K : PySem.W.Frag) : Sp := fun vs H Q _ => ∃ (v : V) (t : Lz.P) (F : List Str), vs = [v] ∧ Dp K H v t.data ∧ t.okS F ∧ t.mw ≤ 60000 ∧ ∀ (l : Addr) (xs : List V) (H' : Hp), Kp [] H H' → H l = none → H' l = some (.lst xs) → DpAll K H' xs (Lz.P.datas t.win) → Q (.ref l) H'
def spAlw (K : PySem.W.Frag) : Sp := fun vs H Q _ => ∃ (v : V) (t : Lz.P) (F : List Str), vs = [v] ∧ Dp K H v t.data ∧ t.okS F ∧ t.mw ≤ 60000 ∧ ∀ (l : Addr) (xs : List V) (H' : Hp), Kp [] H H' → H l = none → H' l = some (.lst xs) → DpAll K H' xs (Lz.P.datas t.alw) → Q (.ref l) H'
theorem alws_rev (ti : List Lz.P) (o : Lz.P) : Lz.P.alws (ti ++ [o]).reverse = o :: Lz.P.alws (ti ++ o.win.reverse).reverse := by
  rw [List.reverse_append, List.reverse_append, List.reverse_reverse]
  show Lz.P.alws (o :: ti.reverse) = _
  exact alws_cons o ti.reverse
theorem DpAll.reverse {K : PySem.W.Frag} {H : Hp} : ∀ {vs : List V} {ds : List PyData}, DpAll K H vs ds → DpAll K H vs.reverse ds.reverse
  | _, _, .nil => .nil
  | _, _, .cons h t => by
    rw [List.reverse_cons, List.reverse_cons]
    exact (DpAll.reverse t).append (.one h)
theorem DpAll.snoc {K : PySem.W.Frag} {H : Hp} {ys : List V} {ds : List PyData} {d : PyData} (h : DpAll K H ys (ds ++ [d])) : ∃ yi v, ys = yi ++ [v] ∧ DpAll K H yi ds ∧ Dp K H v d := by
  have h1 := h.take ds.length
  have h2 := h.drop ds.length
  rw [List.take_left] at h1
  rw [List.drop_left] at h2
  have e := (List.take_append_drop ds.length ys).symm
  generalize ys.drop ds.length = zs at h2 e
  cases h2 with
  | cons h3 h4 =>
    cases h4
    exact ⟨_, _, e, h1, h3⟩
theorem revLK {X : Cx} {K : PySem.W.Frag} {e : Expr} {te : TE} {k : Nat} {p1 p2 p3 pos : Pos} (h : X.K = K) (he : PE X e te) : PE X (.Subscript e (.Slice none none (some (.UnaryOp .USub (.Constant (.int 1) k p1) p2)) p3) pos) (tRevL K te) := by subst h; exact pe_revL he
section
variable {P : Program} {w : World} {K : PySem.W.Frag} {mg : Str → Option Value} {base : Heap} {f : Addr} {fd : FuncData}
theorem ok_win {pd : Addr} {es : Array DictEntry} {n : Nat} (F : Fun K "within" "within" sWithin f fd) (B : Bt mg) (mPO : mg "PARTS_OF" = some (.ref pd)) (DK : KDict K w pd es n) (O : PO2 K pd) : FnOk P w K mg base CX0 1 f fd ["part"] (spWin K) := by
  have mlist := B.list
  refine F.ok scWithin (fun vs H Q E h => ?_) (fun cdv A outer s H vs Q E hr h => ?_)
  · obtain ⟨v, t, G, rfl, _⟩ := h
    rfl
  obtain ⟨v, t, G, rfl, hd, hok, hmany, q⟩ := h
  refine ⟨_, (pss_cons (ps_set (i := 1) scWithin.nd rfl (.inl rfl) (pe_ix (ix_tupK (K := K) rfl) (pv 0) pe_int (fun _ _ => rfl)))
    (pss_cons (ps_if (pt_cmpR op_eq (pv 1) pe_str (nomark _)) (pss_one (ps_ret (pe_op op_cat (pe_lc (own := [("row", 2)]) rfl scWithin.nd (pi_tupK (K := K) rfl (pe_ix (ix_tupK (K := K) rfl) (pv 0) pe_int (fun _ _ => rfl))) (blkOk_by (N := ["part", "kind", "row"]) (sc := defScope sWithin) (by decide +kernel)) (fun _ _ _ _ _ => (pg_name (i := 2) scWithin.nd rfl (.inl rfl))) (fun _ _ _ _ _ => pts_nil) (fun _ _ _ _ _ => (pe_ix (ix_tupK (K := K) rfl) (pv 2) pe_int (fun _ _ => rfl)))) (pe_lst (pa_cons (pe_ix (ix_tupK (K := K) rfl) (pv 0) pe_int (fun _ _ => rfl)) pa_nil))))) pss_nil)
    (pss_cons (ps_if (pt_cmpR (op_in_kdK (K := K) rfl DK) (pv 1) (pe_glob (v := .ref pd) (by rfl) mPO rfl) rfl) (pss_one (ps_ret (pe_callTy (call_listK (K := K) rfl) (by rfl) mlist (by decide +kernel) (pa_cons (pe_slice (sl_tupAK (K := K) rfl) (pv 0) (po_some pe_int) po_none) pa_nil)))) pss_nil)
    (pss_one (ps_ret (pe_lst pa_nil)))))), ?_⟩
  rcases win_cases hok with ⟨hi, hk⟩ | ⟨k, as, rfl, hns, hk⟩ | ⟨nm, as, b, rfl, hl⟩
  · obtain ⟨a, xs, rfl, ht, hx⟩ := hd_at hd
    refine ⟨_, rfl, a, _, _, _, rfl, rfl, ht, at_of (j := 0) rfl rfl, ?_⟩
    refine ⟨_, rfl, rfl, _, rfl, ?_⟩
    refine ite2 (fun c => ?_) (fun _ => ?_)
    · have e : t.hd = "let" := V.str.inj (of_decide_eq_true c)
      rcases hk with h | h | h | h <;> exact absurd (h.symm.trans e) (by decide +kernel)
    have hn : PySem.W.nsIn K pd t.hd = some none := by
      rcases hk with h | h | h | h <;> rw [h]
      · exact O.po.num
      · exact O.po.nam
      · exact O.po.fn
      · exact O.shut
    refine ⟨_, rfl, t.hd, _, rfl, rfl, hn, _, rfl, ?_⟩
    refine ⟨Nat.zero_le _, fun l hl => ?_⟩
    exact q l [] _ (Kp.new hl) hl upd_same (by rw [hi]; exact .nil)
  · obtain ⟨a, xs, rfl, ht, hx⟩ := op_atU hd
    have hp := kind_plain hk
    refine ⟨_, rfl, a, _, _, _, rfl, rfl, ht, at_of (j := 0) rfl rfl, ?_⟩
    refine ⟨_, rfl, rfl, _, rfl, ?_⟩
    refine ite2 (fun c => absurd (V.str.inj (of_decide_eq_true c)) hp.1) (fun _ => ?_)
    obtain ⟨u, hu⟩ := O.po.op k _ hk
    refine ⟨_, rfl, k, _, rfl, rfl, hu, _, rfl, ?_⟩
    refine ⟨_, rfl, _, rfl, a, _, rfl, ht, fun z => absurd z (not_whole _ _), fun _ t2 ht2 => ?_⟩
    refine ⟨t2, _, rfl, .inr (.inl (.inl upd_same)), fun l hl => ?_⟩
    rw [cut_tl]
    have k1 : Kp [] H (upd H t2 (.tup xs)) := Kp.new ht2
    have k2 : Kp [] (upd H t2 (.tup xs)) (upd (upd H t2 (.tup xs)) l (.lst xs)) := Kp.new (by rw [cut_tl] at hl; exact hl)
    exact q l xs _ (k1.trans k2) (k1.free (by rw [cut_tl] at hl; exact hl) (fun m => nomatch m)) upd_same (by rw [win_op hns]; exact Dp.keepAll (k1.trans k2) _ _ (datas_fz _) hx)
  · obtain ⟨a, r, rs, vb, rfl, ht, hrt, hrs, hb⟩ := let_atU hd
    refine ⟨_, rfl, a, _, _, _, rfl, rfl, ht, at_of (j := 0) rfl rfl, ?_⟩
    refine ⟨_, rfl, rfl, _, rfl, ?_⟩
    refine ite2 (fun _ => ?_) (fun c => absurd (decide_eq_true rfl) c)
    refine ⟨_, rfl, a, _, _, _, rfl, rfl, ht, at_of (j := 1) rfl rfl, r, rfl, ⟨_, hrt⟩, fun D hD => ?_⟩
    have hrl : rs.length = as.length := by rw [hrs.length, List.length_zipWith, datas_len]; omega
    have hlen : as.length ≤ 59999 := by
      have h1 := win_len hmany
      have h2 : (as ++ [b]).length ≤ 59999 := h1
      rw [List.length_append, List.length_singleton] at h2
      omega
    refine lc_tup (K := K) (a := r) (xs := rs) (fun i H' => Kp [] H H' ∧ ∃ xs, H' D = some (.lst xs) ∧ DpAll K H' xs (Lz.P.datas (as.take i)))
      ⟨Kp.new hD, [], upd_same, .nil⟩ (fun i H' _ ⟨k, _⟩ => k.sqT hrt) ?_ ?_
    · rintro i x H1 hi ⟨k1, xs, hxs, hdx⟩
      obtain ⟨t, nx, u, d, rfl, htt, had, hud⟩ := row_at (Dp.keepAll k1 _ _ rows_fz hrs) hi
      refine ⟨rfl, ?_⟩
      refine ⟨_, rfl, t, _, _, _, rfl, rfl, htt, at_of (j := 1) rfl rfl, xs, hxs, ?_, k1.mut hD, xs ++ [u], upd_same, ?_⟩
      · rw [hdx.length, datas_len, List.length_take]
        exact small60000 (by omega)
      · have kput : Kp [D] H1 (upd H1 D (.lst (xs ++ [u]))) := Kp.put hxs List.mem_cons_self
        rw [datas_map, List.take_add_one, had, List.map_append, ← datas_map]
        exact (Dp.keepAll kput _ _ (datas_fz _) hdx).append (.one (Dp.keep kput _ _ (data_fz _) hud))
    · rintro H1 ⟨k1, xs, hxs, hdx⟩
      rw [hrl, List.take_length] at hdx
      refine ⟨_, rfl, a, _, _, _, rfl, rfl, k1.sqT ht, at_of (j := 2) rfl rfl, (by show 1 ≤ sizeLine; decide), fun l2 hl2 => ?_⟩
      have k2 : Kp [] H1 (upd H1 l2 (.lst [vb])) := Kp.new hl2
      have hx2 : (upd H1 l2 (.lst [vb])) D = some (.lst xs) := by rw [upd_ne (ne_of_none hxs hl2)]; exact hxs
      refine ⟨D, l2, _, _, rfl, rfl, hx2, upd_same, ?_, fun l hl => ?_⟩
      · rw [hdx.length, datas_len, List.length_singleton]
        exact Nat.le_of_lt (small60000 (by omega))
      · have k3 := k2.trans (Kp.new (S := []) (o := .lst (xs ++ [vb])) hl)
        have e : Lz.P.datas (Lz.P.lt nm as b).win = Lz.P.datas as ++ [b.data] := by
          show Lz.P.datas (as ++ [b]) = _
          rw [datas_map, datas_map, List.map_append]
          rfl
        refine q l _ _ (k1.trans k3) ((k1.trans k2).free hl (fun m => nomatch m)) upd_same ?_
        rw [e]
        exact (Dp.keepAll k3 _ _ (datas_fz _) hdx).append (.one (Dp.keep (k1.trans k3) _ _ (data_fz _) hb))
abbrev sAllIn : Stmt := topS 7
theorem scAllIn : FnScope ["part", "found", "waiting", "one"] ["part"] (defScope sAllIn) := ⟨rfl, rfl, rfl, by decide +kernel, rfl, by decide +kernel, by decide +kernel⟩
theorem ok_alw (F : Fun K "all_in" "all_in" sAllIn f fd) (CWithin : C8.Cal P w K mg base 1 "within" (spWin K) []) : FnOk P w K mg base CX0 2 f fd ["part"] (spAlw K) := by
  refine F.ok scAllIn (fun vs H Q E h => ?_) (fun cdv A outer s H vs Q E hr h => ?_)
  · obtain ⟨v, t, G, rfl, _⟩ := h
    rfl
  obtain ⟨v, t, G, rfl, hd, hok, hmany, q⟩ := h
  refine ⟨_, (pss_cons (ps_set (i := 1) scAllIn.nd rfl (.inl rfl) (pe_lst pa_nil))
    (pss_cons (ps_set (i := 2) scAllIn.nd rfl (.inl rfl) (pe_lst (pa_cons (pv 0) pa_nil)))
    (pss_cons (ps_while PassesOwn.never (pt_truthK (K := K) rfl (pv 2) (fun _ => rfl)) (pss_cons (ps_set (i := 3) scAllIn.nd rfl (.inl rfl) (pe_bm0K (K := K) rfl PySem.F.plainAttrs_list PySem.F.slot_list_pop PySem.F.type_list_pop mt_pop (pv 2)))
    (pss_cons (ps_expr (pe_bmK (K := K) rfl PySem.F.plainAttrs_list PySem.F.slot_list_append PySem.F.type_list_append mt_append (pv 1) (pa_cons (pv 3) pa_nil)))
    (pss_one (ps_expr (pe_bmK (K := K) rfl PySem.F.plainAttrs_list PySem.F.slot_list_extend PySem.F.type_list_extend mt_extend (pv 2) (pa_cons (revLK (K := K) rfl (C8.pe_c CWithin hr (by first | decide | omega) (by rfl) (pa_cons (pv 3) pa_nil))) pa_nil)))))))
    (pss_one (ps_ret (pv 1)))))), ?_⟩
  refine ⟨Nat.zero_le _, fun lf hlf => ?_⟩
  have k1 : Kp [] H (upd H lf (.lst [])) := Kp.new hlf
  have hf1 : (upd H lf (.lst [])) lf = some (.lst []) := upd_same
  have hd1 := Dp.keep k1 _ _ (data_fz _) hd
  generalize upd H lf (.lst []) = H1 at k1 hf1 hd1 ⊢
  refine ⟨_, rfl, (by show 1 ≤ sizeLine; decide), fun lw hlw => ?_⟩
  have kx : Kp [] H1 (upd H1 lw (.lst [v])) := Kp.new hlw
  have hf2 := kx.lst hf1 (fun m => nomatch m)
  have hw2 : (upd H1 lw (.lst [v])) lw = some (.lst [v]) := upd_same
  have hd2 := Dp.keep kx _ _ (data_fz _) hd1
  have nwf : lf ≠ lw := ne_of_none hf1 hlw
  have hlwH : H lw = none := k1.free hlw (fun m => nomatch m)
  have k2 := k1.trans kx
  generalize upd H1 lw (.lst [v]) = H2 at k2 hf2 hw2 hd2 ⊢
  have hall : t.alw.length = t.mw := rfl
  refine ⟨fun m σ H' => ∃ (v3 : Option V) (ys ws : List V) (us ts : List Lz.P), σ = [some v, some (.ref lf), some (.ref lw), v3] ∧ Kp [] H H' ∧ H' lf = some (.lst ys) ∧ H' lw = some (.lst ws) ∧ DpAll K H' ys (Lz.P.datas us) ∧ DpAll K H' ws (Lz.P.datas ts) ∧ us ++ Lz.P.alws ts.reverse = t.alw ∧ (∀ a, a ∈ ts → a.okS G ∧ a.mw ≤ 60000) ∧ m = Lz.P.mws ts,
    ⟨_, none, [], [v], [], [t], rfl, k2, hf2, hw2, .nil, .one hd2, ?_, fun a m => ?_, rfl⟩, ?_⟩
  · show Lz.P.alws ([t] : List Lz.P) = t.alw
    exact List.append_nil _
  · rw [List.mem_singleton.mp m]
    exact ⟨hok, hmany⟩
  rintro m σ H3 ⟨v3, ys, ws, us, ts, rfl, k3, hf3, hw3, hdy, hdw, heq, hts, rfl⟩
  refine ⟨_, rfl, !ws.isEmpty, .inl ⟨ws, SqL.of hw3, rfl⟩, ?_⟩
  rcases List.eq_nil_or_concat ts with e1 | ⟨ti, o, e1⟩
  · subst e1
    cases hdw
    have e : us = t.alw := by
      rw [← heq]
      exact (List.append_nil us).symm
    rw [e] at hdy
    exact ⟨_, rfl, q lf ys H3 k3 hlf hf3 hdy⟩
  rw [List.concat_eq_append] at e1
  subst e1
  have eds : Lz.P.datas (ti ++ [o]) = Lz.P.datas ti ++ [o.data] := by rw [datas_map, datas_map, List.map_append]; rfl
  rw [eds] at hdw
  obtain ⟨wi, vo, rfl, hwi, hvo⟩ := DpAll.snoc hdw
  have hne : (!(wi ++ [vo]).isEmpty) = true := by cases wi <;> rfl
  rw [if_pos hne]
  obtain ⟨ook, om⟩ := hts o (List.mem_append_right _ List.mem_cons_self)
  have hmt : Lz.P.mws (ti ++ [o]) = Lz.P.mws ti + o.mw := by rw [mws_append, mws_one]
  have hmo := mw_win o
  rw [alws_rev] at heq
  have hlen : us.length + (Lz.P.alws (ti ++ o.win.reverse).reverse).length + 1 = t.mw := by
    rw [← hall, ← heq, List.length_append, List.length_cons]
    omega
  have hlen2 : (Lz.P.alws (ti ++ o.win.reverse).reverse).length = Lz.P.mws (ti ++ o.win.reverse).reverse := rfl
  have hlen3 := mws_len (ti ++ o.win.reverse).reverse
  rw [List.length_reverse, List.length_append, List.length_reverse] at hlen3
  refine ⟨fun σ' H' => ∃ m', m' < Lz.P.mws (ti ++ [o]) ∧ ∃ (v3 : Option V) (ys ws : List V) (us ts : List Lz.P), σ' = [some v, some (.ref lf), some (.ref lw), v3] ∧ Kp [] H H' ∧ H' lf = some (.lst ys) ∧ H' lw = some (.lst ws) ∧ DpAll K H' ys (Lz.P.datas us) ∧ DpAll K H' ws (Lz.P.datas ts) ∧ us ++ Lz.P.alws ts.reverse = t.alw ∧ (∀ a, a ∈ ts → a.okS G ∧ a.mw ≤ 60000) ∧ m' = Lz.P.mws ts, fun σ' H' h => h, ?_⟩
  refine ⟨_, rfl, .inl ⟨rfl, _, SqL.of hw3⟩, lw, _, vo, rfl, rfl, hw3, ?_, ?_⟩
  · rw [List.length_append]
    show (wi ++ [vo])[wi.length + 1 - 1]? = some vo
    rw [Nat.add_sub_cancel, List.getElem?_append_right (Nat.le_refl _), Nat.sub_self]
    rfl
  rw [List.dropLast_concat]
  have kw : Kp [lw] H3 (upd H3 lw (.lst wi)) := Kp.put hw3 List.mem_cons_self
  have k4 : Kp [] H (upd H3 lw (.lst wi)) := k3.mut hlwH
  have hf4 : (upd H3 lw (.lst wi)) lf = some (.lst ys) := kw.lst hf3 (not1 nwf)
  have hw4 : (upd H3 lw (.lst wi)) lw = some (.lst wi) := upd_same
  have hdy4 := Dp.keepAll kw _ _ (datas_fz _) hdy
  have hwi4 := Dp.keepAll kw _ _ (datas_fz _) hwi
  have hvo4 := Dp.keep kw _ _ (data_fz _) hvo
  generalize upd H3 lw (.lst wi) = H4 at k4 hf4 hw4 hdy4 hwi4 hvo4 ⊢
  have hyl : ys.length = us.length := by rw [hdy.length, datas_len]
  refine ⟨_, rfl, .inl ⟨rfl, _, SqL.of hf4⟩, _, rfl, lf, _, _, rfl, rfl, hf4, small60000 (by omega), ?_⟩
  have kf : Kp [lf] H4 (upd H4 lf (.lst (ys ++ [vo]))) := Kp.put hf4 List.mem_cons_self
  have k5 : Kp [] H (upd H4 lf (.lst (ys ++ [vo]))) := k4.mut hlf
  have hf5 : (upd H4 lf (.lst (ys ++ [vo]))) lf = some (.lst (ys ++ [vo])) := upd_same
  have hw5 : (upd H4 lf (.lst (ys ++ [vo]))) lw = some (.lst wi) := kf.lst hw4 (not1 nwf.symm)
  have hdy5 : DpAll K (upd H4 lf (.lst (ys ++ [vo]))) (ys ++ [vo]) (Lz.P.datas (us ++ [o])) := by
    have e : Lz.P.datas (us ++ [o]) = Lz.P.datas us ++ [o.data] := by rw [datas_map, datas_map, List.map_append]; rfl
    rw [e]
    exact (Dp.keepAll kf _ _ (datas_fz _) hdy4).append (.one (Dp.keep kf _ _ (data_fz _) hvo4))
  have hwi5 := Dp.keepAll kf _ _ (datas_fz _) hwi4
  have hvo5 := Dp.keep kf _ _ (data_fz _) hvo4
  generalize upd H4 lf (.lst (ys ++ [vo])) = H5 at k5 hf5 hw5 hdy5 hwi5 hvo5 ⊢
  refine ⟨_, rfl, .inl ⟨rfl, _, SqL.of hw5⟩, _, rfl, vo, o, G, rfl, hvo5, ook, om, fun l xs H6 k6 hl0 hl1 hdx => ?_⟩
  have hf6 := k6.lst hf5 (fun m => nomatch m)
  have hw6 := k6.lst hw5 (fun m => nomatch m)
  have hxl : xs.length = o.win.length := by rw [hdx.length, datas_len]
  have hinl := win_len om
  refine ⟨l, xs, rfl, SqL.of hl1, fun lr hlr => ?_⟩
  have kr : Kp [] H6 (upd H6 lr (.lst xs.reverse)) := Kp.new hlr
  have hf7 := kr.lst hf6 (fun m => nomatch m)
  have hw7 := kr.lst hw6 (fun m => nomatch m)
  have hr7 : (upd H6 lr (.lst xs.reverse)) lr = some (.lst xs.reverse) := upd_same
  have hdx7 := DpAll.reverse (Dp.keepAll kr _ _ (datas_fz _) hdx)
  have k57 := k6.trans kr
  generalize upd H6 lr (.lst xs.reverse) = H7 at hf7 hw7 hr7 hdx7 k57 ⊢
  have hwl : wi.length = ti.length := by rw [hwi.length, datas_len]
  refine ⟨lw, lr, _, _, rfl, rfl, hw7, hr7, ?_, ?_⟩
  · rw [List.length_reverse]
    exact Nat.le_of_lt (small60000 (by omega))
  have kw7 : Kp [lw] H7 (upd H7 lw (.lst (wi ++ xs.reverse))) := Kp.put hw7 List.mem_cons_self
  have er : (Lz.P.datas o.win).reverse = Lz.P.datas o.win.reverse := by rw [datas_map, datas_map, List.map_reverse]
  rw [er] at hdx7
  have ea : Lz.P.datas (ti ++ o.win.reverse) = Lz.P.datas ti ++ Lz.P.datas o.win.reverse := by rw [datas_map, datas_map, datas_map, List.map_append]
  refine ⟨Lz.P.mws (ti ++ o.win.reverse), ?_, _, ys ++ [vo], wi ++ xs.reverse, us ++ [o], ti ++ o.win.reverse, rfl, (k5.trans k57).mut hlwH, kw7.lst hf7 (not1 nwf), upd_same, Dp.keepAll ((k57.mono fun _ m => nomatch m).trans kw7) _ _ (datas_fz _) hdy5, ?_, ?_, fun a m => ?_, rfl⟩
  · have e : Lz.P.mws o.win.reverse = Lz.P.mws o.win := mws_rev _
    rw [mws_append, hmt, e]
    omega
  · rw [ea]
    exact (Dp.keepAll ((k57.mono fun _ m => nomatch m).trans kw7) _ _ (datas_fz _) hwi5).append (Dp.keepAll kw7 _ _ (datas_fz _) hdx7)
  · rw [List.append_assoc]
    exact heq
  · rcases List.mem_append.mp m with m | m
    · exact hts a (List.mem_append_left _ m)
    · have m := List.mem_reverse.mp m
      have := mws_mem m
      exact ⟨win_okS ook m, by omega⟩
end
end Lz

set_option Elab.async false
set_option linter.all false
set_option maxRecDepth 100000
set_option maxHeartbeats 8000000
namespace Lz
open PySem PySem.Spec PyProof.Rows L2
def spMade (K : PySem.W.Frag) : Sp := fun vs H Q _ => ∃ (v : V) (li a : Addr) (t : Lz.P) (F : List Str) (xs : List V) (kvs : List (Key × V)) (th : List (Str × Lz.P)), vs = [v, .ref li, .ref a] ∧ Dp K H v t.data ∧ t.okS F ∧ t.mw ≤ 60000 ∧ H li = some (.lst xs) ∧ DpAll K H xs (Lz.P.datas (Lz.P.puts th t.win)) ∧ TD K H a kvs th ∧ ∀ (v' : V) (H' : Hp), Kp [] H H' → Dp K H' v' (Lz.P.put th t).data → Q v' H'
theorem hd_name {F : List Str} {t : Lz.P} (h : t.okS F) (e : t.hd = "name") : ∃ x, t = .nam x := by
  cases t with
  | num i => exact absurd (show ("number" : Str) = "name" from e) (by decide +kernel)
  | nam x => exact ⟨x, rfl⟩
  | fn x => exact absurd (show ("fun" : Str) = "name" from e) (by decide +kernel)
  | op k as => exact absurd (show k = "name" from e) (kind2_plain (show (k, as.length) ∈ kinds2 ∧ _ from h).1).2.2.1
  | lt nm as b => exact absurd (show ("let" : Str) = "name" from e) (by decide +kernel)
theorem hd_let {F : List Str} {t : Lz.P} (h : t.okS F) (e : t.hd = "let") : ∃ nm as b, t = .lt nm as b := by
  cases t with
  | num i => exact absurd (show ("number" : Str) = "let" from e) (by decide +kernel)
  | nam x => exact absurd (show ("name" : Str) = "let" from e) (by decide +kernel)
  | fn x => exact absurd (show ("fun" : Str) = "let" from e) (by decide +kernel)
  | op k as => exact absurd (show k = "let" from e) (kind2_plain (show (k, as.length) ∈ kinds2 ∧ _ from h).1).1
  | lt nm as b => exact ⟨nm, as, b, rfl⟩
section
variable {P : Program} {w : World} {K : PySem.W.Frag} {mg : Str → Option Value} {base : Heap} {f : Addr} {fd : FuncData}
abbrev sMadeOf : Stmt := topS 15
theorem scMadeOf : FnScope ["part", "inner", "things", "kind", "rows", "row", "one"] ["part", "inner", "things"] (defScope sMadeOf) := ⟨rfl, rfl, rfl, by decide +kernel, rfl, by decide +kernel, by decide +kernel⟩
theorem ok_made (F : Fun K "made_of" "made_of" sMadeOf f fd) (B : Bt mg) (mzip : mg "zip" = none) : FnOk P w K mg base CX0 1 f fd ["part", "inner", "things"] (spMade K) := by
  have mtup := B.tuple
  refine F.ok scMadeOf (fun vs H Q E h => ?_) (fun cdv A outer s H vs Q E hr h => ?_)
  · obtain ⟨v, li, a, t, G, xs, kvs, th, rfl, _⟩ := h
    rfl
  have hu := units1 hr
  obtain ⟨v, li, ad, t, G, xs, kvs, th, rfl, hd, hok, hmw, hli, hxs, hT, q⟩ := h
  refine ⟨_, (pss_cons (ps_set (i := 3) scMadeOf.nd rfl (.inl rfl) (pe_ix (ix_tupK (K := K) rfl) (pv 0) pe_int (fun _ _ => rfl)))
    (pss_cons (ps_if (PW.pt (pw_and (pt_cmpR op_eq (pv 3) pe_str (nomark _)) (pw_and1 (pt_cmp (pc_din hu (pe_ix (ix_tupK (K := K) rfl) (pv 0) pe_int (fun _ _ => rfl)) (pv 2)))))) (pss_one (ps_ret (pe_tup (pa_cons pe_str (pa_cons (pe_dget hu (pv 2) (pe_ix (ix_tupK (K := K) rfl) (pv 0) pe_int (fun _ _ => rfl)) (fun _ _ => rfl)) pa_nil))))) pss_nil)
    (pss_cons (ps_if (pt_cmpR op_eq (pv 3) pe_str (nomark _)) (pss_cons (ps_set (i := 4) scMadeOf.nd rfl (.inl rfl) (pe_callTy (call_tupleK (K := K) rfl) (by rfl) mtup (by decide +kernel) (pa_cons (pe_lc (own := [("row", 5), ("one", 6)]) rfl scMadeOf.nd (pi_mixK (K := K) rfl (by rfl) mzip (pa_cons (pe_ix (ix_tupK (K := K) rfl) (pv 0) pe_int (fun _ _ => rfl)) (pa_cons (pv 1) pa_nil))) (blkOk_by (N := ["part", "inner", "things", "kind", "rows", "row", "one"]) (sc := defScope sMadeOf) (by decide +kernel)) (fun _ _ _ _ _ => (pg_tupK (K := K) (n := 2) rfl rfl (pgs_cons (pg_name (i := 5) scMadeOf.nd rfl (.inl rfl)) (pgs_cons (pg_name (i := 6) scMadeOf.nd rfl (.inl rfl)) pgs_nil)))) (fun _ _ _ _ _ => pts_nil) (fun _ _ _ _ _ => (pe_tup (pa_cons (pe_ix (ix_tupK (K := K) rfl) (pv 5) pe_int (fun _ _ => rfl)) (pa_cons (pv 6) pa_nil))))) pa_nil)))
    (pss_one (ps_ret (pe_tup (pa_cons pe_str (pa_cons (pv 4) (pa_cons (pe_ix (ix_listK (K := K) rfl) (pv 1) (pe_un un_neg pe_int) (fun _ _ => rfl)) pa_nil))))))) pss_nil)
    (pss_one (ps_ret (pe_ifExp (pt_truthK (K := K) rfl (pv 1) (fun _ => rfl)) (pe_tup (pa_cons (pv 3) (StX.pa_starK (K := K) rfl (pv 1) pa_nil))) (pv 0))))))), ?_⟩
  obtain ⟨a, ys, rfl, ht, hys⟩ := hd_at hd
  refine ⟨_, rfl, a, _, _, _, rfl, rfl, ht, at_of (j := 0) rfl rfl, ?_⟩
  refine ⟨_, rfl, rfl, _, rfl, ?_⟩
  by_cases hn : t.hd = "name"
  · refine ite2 (fun _ => ?_) (fun c => absurd (decide_eq_true (congrArg V.str hn)) c)
    obtain ⟨x, rfl⟩ := hd_name hok hn
    obtain ⟨a2, e, ht2⟩ := str_at hd rfl
    obtain rfl := V.ref.inj e
    rcases hT.get x with ⟨u, p, hg, hp, hu'⟩ | ⟨hg, hp⟩
    · refine ⟨_, rfl, a, _, _, _, rfl, rfl, ht2, at_of (j := 1) rfl rfl, _, rfl, ad, _, rfl, hg, _, rfl, ?_⟩
      refine ite2 (fun _ => ?_) (fun c => absurd rfl c)
      refine ⟨_, rfl, _, rfl, a, _, _, _, rfl, rfl, ht2, at_of (j := 1) rfl rfl, ad, _, rfl, hg, (by show 2 ≤ sizeLine; decide), fun T hT' => ?_⟩
      exact q (.ref T) _ (Kp.new hT') (by rw [put_name hp]; exact Dp.newT hT' (.cons (.str _) (.cons hu' .nil)) (datas_fz [p]))
    · refine ⟨_, rfl, a, _, _, _, rfl, rfl, ht2, at_of (j := 1) rfl rfl, _, rfl, ad, _, rfl, hg, _, rfl, ?_⟩
      refine ite2 (fun c => absurd c (by simp)) (fun _ => ?_)
      refine ⟨_, rfl, rfl, _, rfl, ?_⟩
      refine ite2 (fun c => absurd (show ("name" : Str) = "let" from V.str.inj (of_decide_eq_true c)) (by decide +kernel)) (fun _ => ?_)
      cases hxs
      refine ⟨_, rfl, false, .inl ⟨_, SqL.of hli, rfl⟩, ?_⟩
      exact ⟨_, rfl, q _ H (Kp.refl _ _) (by rw [put_name0 hp]; exact hd)⟩
  refine ite2 (fun c => absurd (V.str.inj (of_decide_eq_true c)) hn) (fun _ => ?_)
  refine ⟨_, rfl, rfl, _, rfl, ?_⟩
  by_cases hl : t.hd = "let"
  · refine ite2 (fun _ => ?_) (fun c => absurd (decide_eq_true (congrArg V.str hl)) c)
    obtain ⟨nm, as, b, rfl⟩ := hd_let hok hl
    obtain ⟨a2, r, rs, vb, e, ht2, hr2, hrs, hb⟩ := let_atU hd
    obtain rfl := V.ref.inj e
    have hnl : nm.length = as.length := (show nm.length = as.length ∧ _ from hok).1
    have e1 : Lz.P.datas (Lz.P.puts th (Lz.P.lt nm as b).win) = Lz.P.datas (Lz.P.puts th as) ++ [(Lz.P.put th b).data] := by
      show Lz.P.datas (Lz.P.puts th (as ++ [b])) = _
      rw [puts_append, datas_map, List.map_append, ← datas_map]
      rfl
    rw [e1] at hxs
    obtain ⟨xi, vl, rfl, hxi, hvl⟩ := DpAll.snoc hxs
    have hrl : rs.length = as.length := by rw [hrs.length, List.length_zipWith, datas_len]; omega
    have hxl : xi.length = as.length := by rw [hxi.length, datas_len, puts_len]
    have hal : as.length ≤ 59998 := by
      have h1 := win_len hmw
      have h2 : (as ++ [b]).length ≤ 59999 := h1
      rw [List.length_append, List.length_singleton] at h2
      omega
    refine ⟨_, rfl, a, _, _, _, rfl, rfl, ht2, at_of (j := 1) rfl rfl, _, rfl, r, li, rs, xi ++ [vl], rfl, hr2, SqL.of hli, fun D hD => ?_⟩
    refine lc_it (StZ.walk_mix (K := K) (a := r) (b := li) (xs := rs) (ys := xi ++ [vl]) (n := as.length) (by rw [List.length_append, hrl, hxl, List.length_singleton]; omega)) (fun i H' => Kp [] H H' ∧ ∃ ws, H' D = some (.lst ws) ∧ DpAll K H' ws ((List.zipWith rowD nm (Lz.P.datas (Lz.P.puts th as))).take i))
      ⟨Kp.new hD, [], upd_same, .nil⟩ (fun i H' _ ⟨k, _⟩ => ⟨k.sqT hr2, SqL.of (k.lst hli (fun m => nomatch m))⟩) ?_ ?_
    · rintro i x H1 H2 hi ⟨k1, ws, hws, hdw⟩ ⟨T, rv, ov, rfl, hT0, rfl, e3, e4⟩
      obtain ⟨tr, x, u, d, rfl, htr, hnx, hdx, hux⟩ := row_atU hrs e3
      have e4 : (xi ++ [vl])[i]? = some ov := e4
      rw [List.getElem?_append_left (by omega)] at e4
      have kT : Kp [] H1 (upd H1 T (.tup [.ref tr, ov])) := Kp.new hT0
      have k2 := k1.trans kT
      refine ⟨T, _, rfl, SqT.of upd_same, rfl, _, _, rfl, _, _, rfl, rfl, ?_⟩
      refine ⟨rfl, ?_⟩
      refine ⟨_, rfl, tr, _, _, _, rfl, rfl, k2.sqT htr, at_of (j := 0) rfl rfl, _, rfl, (by show 2 ≤ sizeLine; decide), fun T2 hT2 => ?_⟩
      obtain ⟨po, hpo, hdo⟩ := part_atU hxi e4
      have hws2 := kT.lst hws (fun m => nomatch m)
      have kT2 : Kp [] (upd H1 T (.tup [.ref tr, ov])) (upd (upd H1 T (.tup [.ref tr, ov])) T2 (.tup [.str x, ov])) := Kp.new hT2
      have hws3 := kT2.lst hws2 (fun m => nomatch m)
      have k3 := k2.trans kT2
      have hro : Dp K (upd (upd H1 T (.tup [.ref tr, ov])) T2 (.tup [.str x, ov])) (.ref T2) (rowD x po.data) := Dp.newT hT2 (.cons (.str _) (.cons (Dp.keep k2 _ _ (data_fz _) hdo) .nil)) (datas_fz [po])
      have hdw3 := Dp.keepAll (kT.trans kT2) _ _ (fzAll_iff.mpr fun d m => fzAll_iff.mp rows_fz d (List.mem_of_mem_take m)) hdw
      generalize upd (upd H1 T (.tup [.ref tr, ov])) T2 (.tup [.str x, ov]) = H3 at hws3 k3 hro hdw3 ⊢
      have hwl : ws.length ≤ 59998 := by
        rw [hdw.length, List.length_take, List.length_zipWith, datas_len, puts_len]
        omega
      have kput : Kp [D] H3 (upd H3 D (.lst (ws ++ [.ref T2]))) := Kp.put hws3 List.mem_cons_self
      refine ⟨ws, hws3, small60000 (by omega), k3.mut hD, ws ++ [.ref T2], upd_same, ?_⟩
      have hz : (List.zipWith rowD nm (Lz.P.datas (Lz.P.puts th as)))[i]? = some (rowD x po.data) := by
        rw [List.getElem?_zipWith, hnx, datas_map, List.getElem?_map, hpo]
        rfl
      rw [List.take_add_one, hz]
      exact (Dp.keepAll kput _ _ (fzAll_iff.mpr fun d m => fzAll_iff.mp rows_fz d (List.mem_of_mem_take m)) hdw3).append (.one (Dp.keep kput _ _ (datas_fz [po]) hro))
    · rintro H1 ⟨k1, ws, hws, hdw⟩
      have hzl : (List.zipWith rowD nm (Lz.P.datas (Lz.P.puts th as))).length = as.length := by rw [List.length_zipWith, datas_len, puts_len]; omega
      rw [List.take_of_length_le (by rw [hzl]; exact Nat.le_refl _)] at hdw
      refine ⟨D, ws, rfl, .inl ⟨SqL.of hws, fun R hR => ?_⟩⟩
      have kR : Kp [] H1 (upd H1 R (.tup ws)) := Kp.new hR
      have hdR := Dp.keepAll kR _ _ rows_fz hdw
      have hR2 : SqT K (upd H1 R (.tup ws)) R ws := SqT.of upd_same
      have k2 := k1.trans kR
      generalize upd H1 R (.tup ws) = H2 at hdR hR2 k2 ⊢
      have hli2 := k2.lst hli (fun m => nomatch m)
      have hvl2 := Dp.keep k2 _ _ (data_fz _) hvl
      refine ⟨_, rfl, _, rfl, 1, rfl, li, xi ++ [vl], -1, vl, rfl, rfl, SqL.of hli2, atI_last xi vl, (by show 3 ≤ sizeLine; decide), fun T hT' => ?_⟩
      have kT : Kp [] H2 (upd H2 T (.tup [.str "let", .ref R, vl])) := Kp.new hT'
      have er : fzAll [PyData.str "let", .tuple (List.zipWith rowD nm (Lz.P.datas (Lz.P.puts th as))), (Lz.P.put th b).data] = true := by
        show (fzAll (List.zipWith rowD nm (Lz.P.datas (Lz.P.puts th as))) && (fz (Lz.P.put th b).data && true)) = true
        rw [rows_fz, data_fz]
        rfl
      exact q (.ref T) _ (k2.trans kT) (Dp.newT hT' (.cons (.str _) (.cons (.tup hR2 hdR) (.cons hvl2 .nil))) er)
  refine ite2 (fun c => absurd (V.str.inj (of_decide_eq_true c)) hl) (fun _ => ?_)
  refine ⟨_, rfl, !xs.isEmpty, .inl ⟨xs, SqL.of hli, rfl⟩, ?_⟩
  rcases win_cases hok with ⟨hw, hk⟩ | ⟨k, as, rfl, hns, hk⟩ | ⟨nm, as, b, rfl, _⟩
  · rw [hw] at hxs
    cases hxs
    refine ⟨_, rfl, q _ H (Kp.refl _ _) ?_⟩
    have e : Lz.P.put th t = t := by
      cases t with
      | num i => rfl
      | nam x => exact absurd rfl hn
      | fn x => rfl
      | op k as =>
        by_cases e : k = "shut"
        · show Lz.P.op k (if k = "shut" then as else Lz.P.puts th as) = _
          rw [if_pos e]
        · rw [win_op e] at hw
          have h1 := kind2_len (show (k, as.length) ∈ kinds2 ∧ _ from hok).1
          rw [hw] at h1
          exact absurd h1.1 (by decide)
      | lt nm as b => exact absurd rfl hl
    rw [e]
    exact hd
  · rw [win_op hns] at hxs
    have h1 := kind2_len (show (k, as.length) ∈ kinds2 ∧ _ from hok).1
    have hxl : xs.length = as.length := by rw [hxs.length, datas_len, puts_len]
    have hne : (!xs.isEmpty) = true := by
      cases xs with
      | nil => rw [← hxl] at h1; exact absurd h1.1 (by decide)
      | cons _ _ => rfl
    rw [if_pos hne]
    refine ⟨_, rfl, _, rfl, li, xs, rfl, .inr (SqL.of hli), ?_⟩
    refine ⟨by show (xs ++ []).length + 1 ≤ sizeLine; rw [List.append_nil, hxl]; exact Nat.le_trans (Nat.succ_le_succ h1.2) (by decide), fun T hT' => ?_⟩
    have kT : Kp [] H (upd H T (.tup (.str k :: (xs ++ [])))) := Kp.new hT'
    have e : (Lz.P.put th (Lz.P.op k as)).data = .tuple (.str k :: Lz.P.datas (Lz.P.puts th as)) := by
      show (Lz.P.op k (if k = "shut" then as else Lz.P.puts th as)).data = _
      rw [if_neg hns]
      rfl
    refine q (.ref T) _ kT ?_
    rw [e]
    rw [List.append_nil]
    exact Dp.newT hT' (.cons (.str _) hxs) (datas_fz _)
  · exact absurd rfl hl
end
end Lz

set_option Elab.async false
set_option linter.all false
set_option maxRecDepth 100000
set_option maxHeartbeats 8000000
namespace Lz
open PySem PySem.Spec PyProof.Rows L2
def spPutIn (K : PySem.W.Frag) : Sp := fun vs H Q _ => ∃ (v : V) (a : Addr) (t : Lz.P) (F : List Str) (kvs : List (Key × V)) (th : List (Str × Lz.P)), vs = [v, .ref a] ∧ Dp K H v t.data ∧ t.okS F ∧ t.mw ≤ 60000 ∧ TD K H a kvs th ∧ ∀ (v' : V) (H' : Hp), Kp [] H H' → Dp K H' v' (Lz.P.put th t).data → Q v' H'
theorem DpAll.uncons {K : PySem.W.Frag} {H : Hp} {vs : List V} {d : Lz.P} {ds : List Lz.P} (h : DpAll K H vs (Lz.P.datas (d :: ds))) : ∃ v r, vs = v :: r ∧ Dp K H v d.data ∧ DpAll K H r (Lz.P.datas ds) := by
  have h' : DpAll K H vs (d.data :: Lz.P.datas ds) := h
  cases h' with
  | cons a b => exact ⟨_, _, rfl, a, b⟩
section
variable {P : Program} {w : World} {K : PySem.W.Frag} {mg : Str → Option Value} {base : Heap} {f : Addr} {fd : FuncData}
abbrev sPutIn : Stmt := topS 16
theorem scPutIn : FnScope ["part", "things", "made", "one", "inner", "_"] ["part", "things"] (defScope sPutIn) := ⟨rfl, rfl, rfl, by decide +kernel, rfl, by decide +kernel, by decide +kernel⟩
theorem ok_putIn (F : Fun K "put_in" "put_in" sPutIn f fd) (mreversed : mg "reversed" = none) (CWithin : C8.Cal P w K mg base 1 "within" (spWin K) []) (CAllIn : C8.Cal P w K mg base 2 "all_in" (spAlw K) []) (CMadeOf : C8.Cal P w K mg base 1 "made_of" (spMade K) []) : FnOk P w K mg base CX0 3 f fd ["part", "things"] (spPutIn K) := by
  refine F.ok scPutIn (fun vs H Q E h => ?_) (fun cdv A outer s H vs Q E hr h => ?_)
  · obtain ⟨v, a, t, G, kvs, th, rfl, _⟩ := h
    rfl
  obtain ⟨v, ad, t, G, kvs, th, rfl, hd, hok, hmw, hT, q⟩ := h
  refine ⟨_, (pss_cons (ps_set (i := 2) scPutIn.nd rfl (.inr rfl) (pe_lst pa_nil))
    (pss_cons (ps_for PassesOwn.never rfl (pi_revK (K := K) rfl (by rfl) mreversed (pa_cons (C8.pe_c CAllIn hr (by first | decide | omega) (by rfl) (pa_cons (pv 0) pa_nil)) pa_nil)) (pg_name (i := 3) scPutIn.nd rfl (.inl rfl)) (pss_cons (ps_setLc (i := 4) (own := [("_", 5)]) rfl scPutIn.nd rfl rfl (sw_true rfl rfl rfl (by decide +kernel)) (pi_listK (K := K) rfl (C8.pe_c CWithin hr (by first | decide | omega) (by rfl) (pa_cons (pv 3) pa_nil))) (blkOk_by (N := ["part", "things", "made", "one", "inner", "_"]) (sc := defScope sPutIn) (by decide +kernel)) (fun _ _ _ _ _ => (pg_name (i := 5) scPutIn.nd rfl (.inl rfl))) (fun _ _ _ _ _ => pts_nil) (fun _ _ _ _ _ => (pe_bm0K (K := K) rfl PySem.F.plainAttrs_list PySem.F.slot_list_pop PySem.F.type_list_pop mt_pop (pv 2))))
    (pss_one (ps_expr (pe_bmK (K := K) rfl PySem.F.plainAttrs_list PySem.F.slot_list_append PySem.F.type_list_append mt_append (pv 2) (pa_cons (C8.pe_c CMadeOf hr (by first | decide | omega) (by rfl) (pa_cons (pv 3) (pa_cons (pv 4) (pa_cons (pv 1) pa_nil)))) pa_nil))))))
    (pss_one (ps_ret (pe_bm0K (K := K) rfl PySem.F.plainAttrs_list PySem.F.slot_list_pop PySem.F.type_list_pop mt_pop (pv 2)))))), ?_⟩
  refine ⟨Nat.zero_le _, fun lm hlm => ?_⟩
  have k1 : Kp [] H (upd H lm (.lst [])) := Kp.new hlm
  have hm1 : (upd H lm (.lst [])) lm = some (.lst []) := upd_same
  generalize upd H lm (.lst []) = H1 at k1 hm1 ⊢
  refine ⟨_, rfl, v, t, G, rfl, Dp.keep k1 _ _ (data_fz _) hd, hok, hmw, fun l xs H2 k2 hl0 hl1 hdx => ?_⟩
  have hm2 := k2.lst hm1 (fun m => nomatch m)
  have nlm : lm ≠ l := ne_of_none hm1 hl0
  have hlH : H l = none := k1.free hl0 (fun m => nomatch m)
  have hxl : xs.length = t.mw := by rw [hdx.length, datas_len]; rfl
  have k2 := k1.trans k2
  refine ⟨l, xs, rfl, SqL.of hl1, for_it (walk_rev (K := K) (a := l) (xs := xs)) (fun i σ H' => ∃ (v3 v4 : Option V) (ys : List V), σ = [some v, some (.ref ad), some (.ref lm), v3, v4, none] ∧ Kp [] H H' ∧ Kp [lm] H2 H' ∧ H' lm = some (.lst ys) ∧ DpAll K H' ys.reverse (Lz.P.datas (stk th (t.alw.drop (t.mw - i)))))
    ⟨none, none, [], rfl, k2, Kp.refl _ _, hm2, ?_⟩ (fun i σ H' _ ⟨_, _, _, _, _, k, _⟩ => SqL.of (k.lst hl1 (not1 nlm.symm))) ?_ ?_⟩
  · rw [Nat.sub_zero, List.drop_of_length_le (by show t.alw.length ≤ t.alw.length; exact Nat.le_refl _)]
    exact .nil
  · rintro i x σ H3 H4 hi ⟨v3, v4, ys, rfl, k3, k23, hm3, hdy⟩ ⟨rfl, hx⟩
    obtain ⟨o, ho, hdo⟩ := part_atU (Dp.keepAll k23 _ _ (datas_fz _) hdx) hx
    rw [hxl] at ho hi
    obtain ⟨S, e1, e2⟩ := stk_turn (th := th) ho
    rw [show t.mw - 1 - i + 1 = t.mw - i by omega] at e1
    rw [show t.mw - 1 - i = t.mw - (i + 1) by omega] at e2
    rw [e1] at hdy
    have hol := List.mem_of_getElem? ho
    have hoo := alw_okS hok o hol
    have hom : o.mw ≤ 60000 := Nat.le_trans (alw_mw o hol) hmw
    refine ⟨_, rfl, x, o, G, rfl, hdo, hoo, hom, fun lw ws H5 k5 hw0 hw1 hdw => ?_⟩
    have hm5 := k5.lst hm3 (fun m => nomatch m)
    have hdy5 := Dp.keepAll k5 _ _ (datas_fz _) hdy
    have hdo5 := Dp.keep k5 _ _ (data_fz _) hdo
    have k5' : Kp [] H H5 := k3.trans k5
    have k25 : Kp [lm] H2 H5 := k23.trans (k5.mono fun _ m => nomatch m)
    have hwl : ws.length = o.win.length := by rw [hdw.length, datas_len]
    have hw9 := win_len hom
    have nwm : lm ≠ lw := ne_of_none hm3 hw0
    refine ⟨lw, rfl, ⟨ws, SqL.of hw1⟩, fun D hD => ?_⟩
    have nDm : lm ≠ D := ne_of_none hm5 hD
    have hDH : H D = none := k5'.free hD (fun m => nomatch m)
    have hD2 : H2 D = none := by
      cases e : H2 D with
      | none => rfl
      | some oo =>
        by_cases c : D ∈ [lm]
        · exact absurd (List.mem_singleton.mp c).symm nDm
        · exact absurd (k25 D oo e fun m => absurd m c) (by rw [hD]; exact fun h => nomatch h)
    refine lc_it (walk_list (K := K) (a := lw) (xs := ws)) (fun k H' => Kp [] H H' ∧ Kp [lm] H2 H' ∧ H' lw = some (.lst ws) ∧ Dp K H' x o.data ∧ ∃ ys' zs, H' lm = some (.lst ys') ∧ H' D = some (.lst zs) ∧ DpAll K H' ys'.reverse (Lz.P.datas ((Lz.P.puts th o.win).drop k ++ S)) ∧ DpAll K H' zs (Lz.P.datas ((Lz.P.puts th o.win).take k)))
      ⟨k5'.trans (Kp.new hD), k25.trans (Kp.new hD), (Kp.new (S := []) hD).lst hw1 (fun m => nomatch m), Dp.keep (Kp.new (S := []) hD) _ _ (data_fz _) hdo5, ys, [], (Kp.new (S := []) hD).lst hm5 (fun m => nomatch m), upd_same, Dp.keepAll (Kp.new (S := []) hD) _ _ (datas_fz _) hdy5, .nil⟩ (fun k H' _ ⟨_, _, e, _⟩ => SqL.of e) ?_ ?_
    · rintro k u H6 H7 hk ⟨k6, k26, hw6, hdo6, ys', zs, hm6, hD6, hdy6, hdz6⟩ ⟨rfl, hu⟩
      have hpl : k < (Lz.P.puts th o.win).length := by rw [puts_len]; omega
      have ed : (Lz.P.puts th o.win).drop k = (Lz.P.puts th o.win)[k] :: (Lz.P.puts th o.win).drop (k + 1) := List.drop_eq_getElem_cons hpl
      rw [ed] at hdy6
      obtain ⟨top, rest, hr, ht6, hr6⟩ := DpAll.uncons hdy6
      · have ey : ys' = rest.reverse ++ [top] := by rw [← List.reverse_reverse ys', hr, List.reverse_cons]
        subst ey
        refine ⟨rfl, ?_⟩
        refine ⟨_, rfl, .inl ⟨rfl, _, SqL.of hm6⟩, lm, _, top, rfl, rfl, hm6, ?_, ?_⟩
        · rw [List.length_append]
          show (rest.reverse ++ [top])[rest.reverse.length + 1 - 1]? = some top
          rw [Nat.add_sub_cancel, List.getElem?_append_right (Nat.le_refl _), Nat.sub_self]
          rfl
        rw [List.dropLast_concat]
        have kp : Kp [lm] H7 (upd H7 lm (.lst rest.reverse)) := Kp.put hm6 List.mem_cons_self
        have hD7 : (upd H7 lm (.lst rest.reverse)) D = some (.lst zs) := kp.lst hD6 (not1 nDm.symm)
        have hw7 := kp.lst hw6 (not1 nwm.symm)
        have hm7 : (upd H7 lm (.lst rest.reverse)) lm = some (.lst rest.reverse) := upd_same
        have k7 : Kp [] H (upd H7 lm (.lst rest.reverse)) := k6.mut hlm
        have k27 := k26.trans kp
        have hdo7 := Dp.keep kp _ _ (data_fz _) hdo6
        have hr7 := Dp.keepAll kp _ _ (datas_fz _) hr6
        have ht7 := Dp.keep kp _ _ (data_fz _) ht6
        have hz7 := Dp.keepAll kp _ _ (datas_fz _) hdz6
        generalize upd H7 lm (.lst rest.reverse) = H8 at hD7 hw7 hm7 k7 k27 hdo7 hr7 ht7 hz7 ⊢
        have hzl : zs.length ≤ 59999 := by
          rw [hdz6.length, datas_len, List.length_take, puts_len]
          omega
        have kD : Kp [D] H8 (upd H8 D (.lst (zs ++ [top]))) := Kp.put hD7 List.mem_cons_self
        have nDw : lw ≠ D := ne_of_none hw1 hD
        refine ⟨zs, hD7, small60000 (by omega), k7.mut hDH, k27.mut hD2, kD.lst hw7 (not1 nDw), Dp.keep kD _ _ (data_fz _) hdo7, rest.reverse, zs ++ [top], kD.lst hm7 (not1 nDm), upd_same, ?_, ?_⟩
        · rw [List.reverse_reverse]
          exact Dp.keepAll kD _ _ (datas_fz _) hr7
        · have et : (Lz.P.puts th o.win).take (k + 1) = (Lz.P.puts th o.win).take k ++ [(Lz.P.puts th o.win)[k]] := by
            rw [List.take_add_one, List.getElem?_eq_getElem hpl]
            rfl
          rw [et, datas_map, List.map_append, ← datas_map]
          exact (Dp.keepAll kD _ _ (datas_fz _) hz7).append (.one (Dp.keep kD _ _ (data_fz _) ht7))
    · rintro H6 ⟨k6, k26, hw6, hdo6, ys', zs, hm6, hD6, hdy6, hdz6⟩
      have el : ws.length = (Lz.P.puts th o.win).length := by rw [puts_len]; exact hwl
      rw [el, List.drop_length, List.nil_append] at hdy6
      rw [el, List.take_length] at hdz6
      have hsl : ys'.length ≤ 59999 := by
        have h1 := stk_len (th := th) (t.alw.drop (t.mw - (i + 1)))
        rw [e2, List.length_cons, List.length_drop] at h1
        have h2 : t.alw.length = t.mw := rfl
        have h3 := hdy6.length
        rw [List.length_reverse, datas_len] at h3
        omega
      refine ⟨_, rfl, .inl ⟨rfl, _, SqL.of hm6⟩, _, rfl, _, rfl, _, rfl, x, D, ad, o, G, zs, kvs, th, rfl, hdo6, hoo, hom, hD6, hdz6, hT.keep k6, fun v' H7 k7 hd7 => ?_⟩
      have hm7 := k7.lst hm6 (fun m => nomatch m)
      refine ⟨lm, _, _, rfl, rfl, hm7, small60000 (by omega), ?_⟩
      have kp : Kp [lm] H7 (upd H7 lm (.lst (ys' ++ [v']))) := Kp.put hm7 List.mem_cons_self
      refine ⟨some x, some (.ref D), ys' ++ [v'], rfl, (k6.trans k7).mut hlm, (k26.trans (k7.mono fun _ m => nomatch m)).trans kp, upd_same, ?_⟩
      rw [e2, List.reverse_append]
      exact .cons (Dp.keep kp _ _ (data_fz _) hd7) (Dp.keepAll ((k7.mono fun _ m => nomatch m).trans kp) _ _ (datas_fz _) hdy6)
  · rintro σ H3 ⟨v3, v4, ys, rfl, k3, k23, hm3, hdy⟩
    rw [hxl, Nat.sub_self, List.drop_zero, stk_all] at hdy
    obtain ⟨top, rest, hr, ht3, hr3⟩ := DpAll.uncons hdy
    cases hr3
    have ey : ys = [top] := by rw [← List.reverse_reverse ys, hr]; rfl
    subst ey
    refine ⟨_, rfl, .inl ⟨rfl, _, SqL.of hm3⟩, lm, _, top, rfl, rfl, hm3, rfl, ?_⟩
    exact q top _ (k3.mut hlm) (Dp.keep (Kp.put hm3 List.mem_cons_self : Kp [lm] H3 _) _ _ (data_fz _) ht3)
end
end Lz

set_option Elab.async false
set_option linter.all false
set_option maxRecDepth 100000
set_option maxHeartbeats 8000000
namespace Lz
open PySem PySem.Spec PyProof.Rows L2
def spFuns (K : PySem.W.Frag) : Sp := fun vs H Q _ => ∃ (v : V) (fs : List Fn) (d : Lz.P), vs = [v] ∧ Dp K H v (progD fs d) ∧ PrOk fs d ∧ ∀ (l : Addr) (xs : List V) (H' : Hp), Kp [] H H' → H l = none → H' l = some (.lst xs) → DpAll K H' xs ((fnsOf fs d).map fD) → Q (.ref l) H'
def spNumOf (K : PySem.W.Frag) : Sp := fun vs H Q _ => ∃ (v : V) (fs : List Fn) (d : Lz.P) (i : Nat) (g : Fn), vs = [v, .str g.1] ∧ Dp K H v (progD fs d) ∧ PrOk fs d ∧ (fnsOf fs d)[i]? = some g ∧ ∀ H', Kp [] H H' → Q (.int (i : Nat)) H'
def spFunOf (K : PySem.W.Frag) : Sp := fun vs H Q _ => ∃ (v : V) (fs : List Fn) (d : Lz.P) (i : Nat) (g : Fn), vs = [v, .str g.1] ∧ Dp K H v (progD fs d) ∧ PrOk fs d ∧ (fnsOf fs d)[i]? = some g ∧ ∀ (t : V) (H' : Hp), Kp [] H H' → Dp K H' t (fD g) → Q t H'
def spWants (K : PySem.W.Frag) : Sp := fun vs H Q _ => ∃ (v : V) (fs : List Fn) (d : Lz.P) (i : Nat) (g : Fn), vs = [v, .str g.1] ∧ Dp K H v (progD fs d) ∧ PrOk fs d ∧ (fnsOf fs d)[i]? = some g ∧ ∀ H', Kp [] H H' → Q (.int (g.2.1.length : Nat)) H'
def spMost (K : PySem.W.Frag) : Sp := fun vs H Q _ => ∃ (v : V) (fs : List Fn) (d : Lz.P), vs = [v] ∧ Dp K H v (progD fs d) ∧ PrOk fs d ∧ ∀ (m : Nat) (H' : Hp), Kp [] H H' → (∀ g, g ∈ fs → g.2.1.length ≤ m) → Q (.int (m : Nat)) H'
section
variable {P : Program} {w : World} {K : PySem.W.Frag} {mg : Str → Option Value} {base : Heap} {f : Addr} {fd : FuncData}
abbrev sAllFunctions : Stmt := topS 9
theorem scAllFunctions : FnScope ["program", "functions", "asked"] ["program"] (defScope sAllFunctions) := ⟨rfl, rfl, rfl, by decide +kernel, rfl, by decide +kernel, by decide +kernel⟩
theorem ok_funs (F : Fun K "all_functions" "all_functions" sAllFunctions f fd) : FnOk P w K mg base CX0 1 f fd ["program"] (spFuns K) := by
  refine F.ok scAllFunctions (fun vs H Q E h => ?_) (fun cdv A outer s H vs Q E hr h => ?_)
  · obtain ⟨v, fs, d, rfl, _⟩ := h
    rfl
  obtain ⟨v, fs, d, rfl, hd, hok, q⟩ := h
  refine ⟨_, (pss_cons (ps_asg (pv 0) (pg_tupK (K := K) (n := 2) rfl rfl (pgs_cons (pg_name (i := 1) scAllFunctions.nd rfl (.inl rfl)) (pgs_cons (pg_name (i := 2) scAllFunctions.nd rfl (.inl rfl)) pgs_nil))))
    (pss_one (ps_ret (pe_lst (StX.pa_starK (K := K) rfl (pv 1) (pa_cons (pe_tup (pa_cons pe_str (pa_cons (pe_tup pa_nil) (pa_cons (pv 2) pa_nil)))) pa_nil)))))), ?_⟩
  obtain ⟨pr, xs, rfl, hpr, hxs⟩ := Dp.tup_of (ds := [.tuple (fs.map fD), d.data]) hd
  obtain ⟨ft, rs, vd, rfl, hft, hrs, hvd⟩ : ∃ ft rs vd, xs = [.ref ft, vd] ∧ SqT K H ft rs ∧ DpAll K H rs (fs.map fD) ∧ Dp K H vd d.data := by
    cases hxs with
    | cons h1 h2 =>
      obtain ⟨ft, rs, rfl, hft, hrs⟩ := h1.tup_of
      cases h2 with
      | cons h3 h4 =>
        cases h4
        exact ⟨ft, rs, _, rfl, hft, hrs, h3⟩
  have hrl : rs.length = fs.length := by rw [hrs.length, List.length_map]
  have h8 := hok.len
  refine ⟨_, rfl, pr, _, rfl, hpr, rfl, _, _, rfl, _, _, rfl, rfl, ?_⟩
  refine ⟨_, rfl, ft, _, rfl, .inl hft, (Nat.zero_le _), fun e he => ?_⟩
  refine ⟨_, rfl, (by show 3 ≤ sizeLine; decide), fun t ht => ?_⟩
  have k1 : Kp [] H (upd H e (.tup [])) := Kp.new he
  have k2 := k1.trans (Kp.new (S := []) (o := .tup [.str "", .ref e, vd]) ht)
  have hte : (upd (upd H e (.tup [])) t (.tup [.str "", .ref e, vd])) e = some (.tup []) := by rw [upd_ne (ne_of_none upd_same ht)]; exact upd_same
  have hlast : Dp K (upd (upd H e (.tup [])) t (.tup [.str "", .ref e, vd])) (.ref t) (fD (askedFn d)) := .tup (.inl (.inl upd_same)) (.cons (.str _) (.cons (.tup (.inl (.inl hte)) .nil) (.cons (Dp.keep k2 _ _ (data_fz _) hvd) .nil)))
  have hdx := (Dp.keepAll k2 _ _ (fdU_fz _) hrs).append (.one hlast)
  generalize upd (upd H e (.tup [])) t (.tup [.str "", .ref e, vd]) = H2 at k2 hdx ⊢
  refine ⟨by rw [List.length_append, hrl]; show fs.length + 1 ≤ sizeLine; exact Nat.le_of_lt (small1000 (by omega)), fun l hl => ?_⟩
  have k3 := Kp.new (S := []) (o := .lst (rs ++ [.ref t])) hl
  refine q l _ _ (k2.trans k3) (k2.free hl (fun m => nomatch m)) upd_same ?_
  have ee : (fnsOf fs d).map fD = fs.map fD ++ [fD (askedFn d)] := by
    show (fs ++ [askedFn d]).map fD = _
    rw [List.map_append]
    rfl
  rw [ee]
  refine Dp.keepAll k3 _ _ ?_ hdx
  have := fdU_fz (fnsOf fs d)
  rw [ee] at this
  exact this
abbrev sNumberOf : Stmt := topS 10
theorem scNumberOf : FnScope ["program", "f", "function"] ["program", "f"] (defScope sNumberOf) := ⟨rfl, rfl, rfl, by decide +kernel, rfl, by decide +kernel, by decide +kernel⟩
theorem ok_numOf (F : Fun K "number_of" "number_of" sNumberOf f fd) (CAllFunctions : C8.Cal P w K mg base 1 "all_functions" (spFuns K) []) : FnOk P w K mg base CX0 2 f fd ["program", "f"] (spNumOf K) := by
  refine F.ok scNumberOf (fun vs H Q E h => ?_) (fun cdv A outer s H vs Q E hr h => ?_)
  · obtain ⟨v, fs, d, i, g, rfl, _⟩ := h
    rfl
  obtain ⟨v, fs, d, i, g, rfl, hd, hok, hg, q⟩ := h
  refine ⟨_, (pss_one (ps_ret (pe_bmK (K := K) rfl PySem.F.plainAttrs_list PySem.F.slot_list_index PySem.F.type_list_index (mt_indexK (K := K) rfl) (pe_lc (own := [("function", 2)]) rfl scNumberOf.nd (pi_listK (K := K) rfl (C8.pe_c CAllFunctions hr (by first | decide | omega) (by rfl) (pa_cons (pv 0) pa_nil))) (blkOk_by (N := ["program", "f", "function"]) (sc := defScope sNumberOf) (by decide +kernel)) (fun _ _ _ _ _ => (pg_name (i := 2) scNumberOf.nd rfl (.inl rfl))) (fun _ _ _ _ _ => pts_nil) (fun _ _ _ _ _ => (pe_ix (ix_tupK (K := K) rfl) (pv 2) pe_int (fun _ _ => rfl)))) (pa_cons (pv 1) pa_nil)))), ?_⟩
  refine ⟨_, rfl, v, fs, d, rfl, hd, hok, fun l xs H1 k1 hl0 hl1 hdx => ?_⟩
  have h9 := flenU hok
  have hxl : xs.length = (fnsOf fs d).length := by rw [hdx.length, List.length_map]
  refine ⟨l, rfl, ⟨_, SqL.of hl1⟩, fun D hD => ?_⟩
  refine lc_list (K := K) (a := l) (xs := xs) (fun i H' => Kp [] H1 H' ∧ H' D = some (.lst ((((fnsOf fs d).take i).map (·.1)).map V.str)))
    ⟨Kp.new hD, upd_same⟩ (fun i H' _ ⟨k, _⟩ => SqL.of (k.lst hl1 (fun m => nomatch m))) ?_ ?_
  · rintro i x H2 hi ⟨k2, h2⟩
    obtain ⟨e, t, r, u, he, rfl, ht, _, _⟩ := fn_atU (Dp.keepAll k2 _ _ (fdU_fz _) hdx) hi
    refine ⟨rfl, ?_⟩
    refine ⟨_, rfl, t, _, _, _, rfl, rfl, ht, at_of (j := 0) rfl rfl, _, h2, ?_, k2.mut hD, ?_⟩
    · rw [List.length_map, List.length_map, List.length_take]
      exact small1000 (by omega)
    · rw [upd_same, List.take_add_one, he, List.map_append, List.map_append]
      rfl
  · rintro H2 ⟨k2, h2⟩
    rw [hxl, List.take_length] at h2
    have hat : ∀ m : Nat, (((fnsOf fs d).map (·.1)).map V.str)[m]? = (fnsOf fs d)[m]?.map (fun g => V.str g.1) := fun m => by
      rw [List.getElem?_map, List.getElem?_map]
      cases (fnsOf fs d)[m]? <;> rfl
    refine ⟨.inl ⟨rfl, _, SqL.of h2⟩, _, rfl, D, _, _, i, .str g.1, rfl, rfl, SqL.of h2, rfl, ?_, ?_, ?_, ?_, q H2 (k1.trans k2)⟩
    · rw [List.all_eq_true]
      intro z hz
      obtain ⟨s, _, rfl⟩ := List.mem_map.mp hz
      rfl
    · rw [hat, hg]
      rfl
    · show (g.1 == g.1) = true
      exact beq_self_eq_true _
    · intro m z hm hz
      rw [hat] at hz
      cases e : (fnsOf fs d)[m]? with
      | none => rw [e] at hz; cases hz
      | some g' =>
        rw [e] at hz
        obtain rfl : V.str g'.1 = z := Option.some.inj hz
        show (g'.1 == g.1) = false
        refine beq_eq_false_iff_ne.mpr fun hq => ?_
        have h1 : ((fnsOf fs d).map (·.1))[m]? = some g.1 := by rw [List.getElem?_map, e, ← hq]; rfl
        have h2 : ((fnsOf fs d).map (·.1))[i]? = some g.1 := by rw [List.getElem?_map, hg]; rfl
        have := nd_ix hok.nd h1 h2
        omega
abbrev sFunctionOf : Stmt := topS 11
theorem scFunctionOf : FnScope ["program", "f"] ["program", "f"] (defScope sFunctionOf) := ⟨rfl, rfl, rfl, by decide +kernel, rfl, by decide +kernel, by decide +kernel⟩
theorem ok_funOf (F : Fun K "function_of" "function_of" sFunctionOf f fd) (CAllFunctions : C8.Cal P w K mg base 1 "all_functions" (spFuns K) []) (CNumberOf : C8.Cal P w K mg base 2 "number_of" (spNumOf K) []) : FnOk P w K mg base CX0 3 f fd ["program", "f"] (spFunOf K) := by
  refine F.ok scFunctionOf (fun vs H Q E h => ?_) (fun cdv A outer s H vs Q E hr h => ?_)
  · obtain ⟨v, fs, d, i, g, rfl, _⟩ := h
    rfl
  obtain ⟨v, fs, d, i, g, rfl, hd, hok, hg, q⟩ := h
  refine ⟨_, (pss_one (ps_ret (pe_ix (ix_listK (K := K) rfl) (C8.pe_c CAllFunctions hr (by first | decide | omega) (by rfl) (pa_cons (pv 0) pa_nil)) (C8.pe_c CNumberOf hr (by first | decide | omega) (by rfl) (pa_cons (pv 0) (pa_cons (pv 1) pa_nil))) (fun _ _ => rfl)))), ?_⟩
  refine ⟨_, rfl, v, fs, d, rfl, hd, hok, fun l xs H2 k2 hl0 hl hdx => ?_⟩
  refine ⟨_, rfl, _, rfl, v, fs, d, i, g, rfl, Dp.keep k2 _ _ (progU_fz _ _) hd, hok, hg, fun H3 k3 => ?_⟩
  obtain ⟨x, hx, hxd⟩ := hdx.get (i := i) (d := fD g) (by rw [List.getElem?_map, hg]; rfl)
  have hf : fz (fD g) = true := fzAll_iff.mp (fdU_fz [g]) _ List.mem_cons_self
  refine ⟨l, _, _, _, rfl, rfl, SqL.of (k3.lst hl (fun m => nomatch m)), at_of (j := i) rfl hx, ?_⟩
  exact q x H3 (k2.trans k3) (Dp.keep k3 _ _ hf hxd)
abbrev sWants : Stmt := topS 12
theorem scWants : FnScope ["program", "f"] ["program", "f"] (defScope sWants) := ⟨rfl, rfl, rfl, by decide +kernel, rfl, by decide +kernel, by decide +kernel⟩
theorem ok_wants (F : Fun K "wants" "wants" sWants f fd) (B : Bt mg) (CFunctionOf : C8.Cal P w K mg base 3 "function_of" (spFunOf K) []) : FnOk P w K mg base CX0 4 f fd ["program", "f"] (spWants K) := by
  have ml := B.len
  refine F.ok scWants (fun vs H Q E h => ?_) (fun cdv A outer s H vs Q E hr h => ?_)
  · obtain ⟨v, fs, d, i, g, rfl, _⟩ := h
    rfl
  obtain ⟨v, fs, d, i, g, rfl, hd, hok, hg, q⟩ := h
  refine ⟨_, (pss_one (ps_ret (pe_callB (call_lenK (K := K) rfl) (by rfl) ml PySem.boot_len (pa_cons (pe_ix (ix_tupK (K := K) rfl) (C8.pe_c CFunctionOf hr (by first | decide | omega) (by rfl) (pa_cons (pv 0) (pa_cons (pv 1) pa_nil))) pe_int (fun _ _ => rfl)) pa_nil)))), ?_⟩
  refine ⟨_, rfl, _, rfl, v, fs, d, i, g, rfl, hd, hok, hg, fun tv H2 k2 ht => ?_⟩
  obtain ⟨g', t, r, u, hg', rfl, ht1, hr2, _⟩ := fn_atU (gs := [g]) (i := 0) (.one ht) rfl
  obtain rfl := Option.some.inj hg'
  refine ⟨t, _, _, _, rfl, rfl, ht1, at_of (j := 1) rfl rfl, r, _, rfl, .inr hr2, ?_⟩
  show Q (V.int ((g.2.1.map V.str).length : Nat)) H2
  rw [List.length_map]
  exact q H2 k2
abbrev sMostWanted : Stmt := topS 13
theorem scMostWanted : FnScope ["program", "function"] ["program"] (defScope sMostWanted) := ⟨rfl, rfl, rfl, by decide +kernel, rfl, by decide +kernel, by decide +kernel⟩
theorem ok_most (F : Fun K "most_wanted" "most_wanted" sMostWanted f fd) (B : Bt mg) : FnOk P w K mg base CX0 1 f fd ["program"] (spMost K) := by
  have ml := B.len
  have mmax := B.max
  refine F.ok scMostWanted (fun vs H Q E h => ?_) (fun cdv A outer s H vs Q E hr h => ?_)
  · obtain ⟨v, fs, d, rfl, _⟩ := h
    rfl
  have hu64 := hr.units
  obtain ⟨v, fs, d, rfl, hd, hok, q⟩ := h
  refine ⟨_, (pss_one (ps_ret (pe_callBK (call_maxDefK (K := K) rfl rfl hu64) (by rfl) mmax (by decide +kernel) (pa_cons (pe_lc (own := [("function", 1)]) rfl scMostWanted.nd (pi_tupK (K := K) rfl (pe_ix (ix_tupK (K := K) rfl) (pv 0) pe_int (fun _ _ => rfl))) (blkOk_by (N := ["program", "function"]) (sc := defScope sMostWanted) (by decide +kernel)) (fun _ _ _ _ _ => (pg_name (i := 1) scMostWanted.nd rfl (.inl rfl))) (fun _ _ _ _ _ => pts_nil) (fun _ _ _ _ _ => (pe_callB (call_lenK (K := K) rfl) (by rfl) ml PySem.boot_len (pa_cons (pe_ix (ix_tupK (K := K) rfl) (pv 1) pe_int (fun _ _ => rfl)) pa_nil)))) pa_nil) (pk_cons pe_int pk_nil)))), ?_⟩
  obtain ⟨pr, ft, rs, vd, rfl, hpr, hft, hrs, hvd⟩ := prog_at hd
  have hrl : rs.length = fs.length := by rw [hrs.length, List.length_map]
  have h8 := hok.len
  refine ⟨_, rfl, pr, _, _, _, rfl, rfl, hpr, at_of (j := 0) rfl rfl, ft, rfl, ⟨_, hft⟩, fun D hD => ?_⟩
  refine lc_tup (K := K) (a := ft) (xs := rs) (fun i H' => Kp [] H H' ∧ H' D = some (.lst (((fs.take i).map (fun g => (g.2.1.length : Int))).map V.int)))
    ⟨Kp.new hD, upd_same⟩ (fun i H' _ ⟨k, _⟩ => k.sqT hft) ?_ ?_
  · rintro i x H1 hi ⟨k1, h1⟩
    obtain ⟨g, t, r, u, hg, rfl, ht, hr3, hu⟩ := fn_atU (Dp.keepAll k1 _ _ (fdU_fz _) hrs) hi
    refine ⟨rfl, ?_⟩
    refine ⟨_, rfl, t, _, _, _, rfl, rfl, ht, at_of (j := 1) rfl rfl, r, _, rfl, .inr hr3, ?_⟩
    refine ⟨_, h1, ?_, k1.mut hD, ?_⟩
    · rw [List.length_map, List.length_map, List.length_take]
      exact small1000 (by omega)
    · rw [upd_same, List.take_add_one, hg, List.map_append, List.map_append, List.length_map]
      rfl
  · rintro H1 ⟨k1, h1⟩
    rw [hrl, List.take_length] at h1
    refine ⟨D, _, 0, rfl, rfl, SqL.of h1, fun e => ?_, fun m hm hle => ?_⟩
    · have e' : fs = [] := List.map_eq_nil_iff.mp e
      exact q 0 H1 k1 fun g m => by rw [e'] at m; exact nomatch m
    · obtain ⟨g0, hg0, rfl⟩ := List.mem_map.mp hm
      refine q g0.2.1.length H1 k1 fun g m => ?_
      have := hle (g.2.1.length : Int) (List.mem_map.mpr ⟨g, m, rfl⟩)
      omega
end
end Lz

set_option Elab.async false
set_option linter.all false
set_option maxRecDepth 100000
set_option maxHeartbeats 8000000
namespace Lz
open PySem PySem.Spec PyProof.Rows L2
def spWorth (K : PySem.W.Frag) : Sp := fun vs H Q _ => ∃ (pv v : V) (fs : List Fn) (d t h : Lz.P) (n : Nat), vs = [pv, v] ∧ Dp K H pv (progD fs d) ∧ PrOk fs d ∧ Dp K H v t.data ∧ t.okS (fs.map (·.1)) ∧ Spine t n h ∧ h.okS (fs.map (·.1)) ∧ h.hd ≠ "give" ∧ ∀ H', Kp [] H H' → Q (.bl (worthB fs n h)) H'
theorem in2U (a b k : Str) : inV (.str k) [.str a, .str b] = (decide (k = a) || decide (k = b)) := by
  refine (inU k [a, b]).trans ?_
  rw [Bool.eq_iff_iff, Bool.or_eq_true, decide_eq_true_iff, decide_eq_true_iff, decide_eq_true_iff]
  simp
theorem spine_hd {t h : Lz.P} {n : Nat} (s : Spine t n h) : (t.hd ≠ "give" → n = 0 ∧ h = t) ∧ (1 ≤ n → ∃ a b, t = .op "give" [a, b] ∧ Spine a (n - 1) h) := by
  cases s with
  | stop e => exact ⟨fun _ => ⟨rfl, rfl⟩, fun h => absurd h (by decide)⟩
  | @give a b h n s => exact ⟨fun e => absurd rfl e, fun _ => ⟨a, b, rfl, s⟩⟩
section
variable {P : Program} {w : World} {K : PySem.W.Frag} {mg : Str → Option Value} {base : Heap} {f : Addr} {fd : FuncData}
abbrev sIsWorth : Stmt := topS 18
theorem scIsWorth : FnScope ["program", "part", "many", "most"] ["program", "part"] (defScope sIsWorth) := ⟨rfl, rfl, rfl, by decide +kernel, rfl, by decide +kernel, by decide +kernel⟩
theorem ok_worth (F : Fun K "is_worth" "is_worth" sIsWorth f fd) (CMostWanted : C8.Cal P w K mg base 1 "most_wanted" (spMost K) []) (CWants : C8.Cal P w K mg base 4 "wants" (spWants K) []) : FnOk P w K mg base CX0 5 f fd ["program", "part"] (spWorth K) := by
  refine F.ok scIsWorth (fun vs H Q E h => ?_) (fun cdv A outer s H vs Q E hr h => ?_)
  · obtain ⟨gp, v, fs, d, t, h, n, rfl, _⟩ := h
    rfl
  obtain ⟨gp, v, fs, d, t, h, n, rfl, hp, hok, hd, htk, hsp, hhk, hhg, q⟩ := h
  refine ⟨_, (pss_cons (ps_if (pt_cmpR (op_notInK (K := K) rfl) (pe_ix (ix_tupK (K := K) rfl) (pv 1) pe_int (fun _ _ => rfl)) (pe_tup (pa_cons pe_str (pa_cons pe_str pa_nil))) rfl) (pss_one (ps_ret (pe_cmpR (op_inK (K := K) rfl) (pe_ix (ix_tupK (K := K) rfl) (pv 1) pe_int (fun _ _ => rfl)) (pe_tup (pa_cons pe_str (pa_cons pe_str pa_nil))) rfl))) pss_nil)
    (pss_cons (ps_set (i := 2) scIsWorth.nd rfl (.inl rfl) pe_int)
    (pss_cons (ps_set (i := 3) scIsWorth.nd rfl (.inl rfl) (C8.pe_c CMostWanted hr (by first | decide | omega) (by rfl) (pa_cons (pv 0) pa_nil)))
    (pss_cons (ps_while PassesOwn.never (PW.pt (pw_and (pt_cmpR op_eq (pe_ix (ix_tupK (K := K) rfl) (pv 1) pe_int (fun _ _ => rfl)) pe_str (nomark _)) (pw_and1 (pt_cmpR op_lt (pv 2) (pv 3) (nomark _))))) (pss_cons (ps_set (i := 1) scIsWorth.nd rfl (.inl rfl) (pe_ix (ix_tupK (K := K) rfl) (pv 1) pe_int (fun _ _ => rfl)))
    (pss_one (ps_aug (i := 2) scIsWorth.nd rfl (.inl rfl) pe_int ip_add))))
    (pss_one (ps_ret (pe_and (pe_cmpR op_eq (pe_ix (ix_tupK (K := K) rfl) (pv 1) pe_int (fun _ _ => rfl)) pe_str (nomark _)) (pe_one (pe_cmpR op_lt (pv 2) (C8.pe_c CWants hr (by first | decide | omega) (by rfl) (pa_cons (pv 0) (pa_cons (pe_ix (ix_tupK (K := K) rfl) (pv 1) pe_int (fun _ _ => rfl)) pa_nil))) (nomark _)))))))))), ?_⟩
  obtain ⟨a, xs, rfl, ht, hxs⟩ := hd_at hd
  refine ⟨_, rfl, a, _, _, _, rfl, rfl, ht, at_of (j := 0) rfl rfl, (by show 2 ≤ sizeLine; decide), fun t1 ht1 => ?_⟩
  have k1 : Kp [] H (upd H t1 (.tup [.str "give", .str "fun"])) := Kp.new ht1
  have h1t : (upd H t1 (.tup [.str "give", .str "fun"])) t1 = some (.tup [.str "give", .str "fun"]) := upd_same
  generalize upd H t1 (.tup [.str "give", .str "fun"]) = H1 at k1 h1t ⊢
  refine ⟨t1, _, rfl, .inr (SqT.of h1t), rfl, rfl, _, rfl, ?_⟩
  rw [in2U]
  refine ite2 (fun c => ?_) (fun c => ?_)
  · have c1 : t.hd ≠ "give" ∧ t.hd ≠ "fun" := by simpa using c
    obtain ⟨rfl, rfl⟩ := (spine_hd hsp).1 c1.1
    refine ⟨_, rfl, a, _, _, _, rfl, rfl, k1.sqT ht, at_of (j := 0) rfl rfl, (by show 2 ≤ sizeLine; decide), fun t2 ht2 => ?_⟩
    refine ⟨t2, _, rfl, .inr (SqT.of upd_same), rfl, rfl, ?_⟩
    have q2 := q _ (k1.trans (Kp.new (S := []) (o := .tup [.str "number", .str "pair"]) ht2))
    rw [worth_not c1.2, decide_eq_true rfl, Bool.true_and] at q2
    rw [in2U]
    exact q2
  have c1 : t.hd = "give" ∨ t.hd = "fun" := by
    by_cases e : t.hd = "give"
    · exact .inl e
    · by_cases e2 : t.hd = "fun"
      · exact .inr e2
      · exact absurd (by simp [e, e2]) c
  refine ⟨_, rfl, gp, fs, d, rfl, Dp.keep k1 _ _ (progU_fz _ _) hp, hok, fun mo H2 k2 hmo => ?_⟩
  have k2 := k1.trans k2
  refine ⟨fun m σ H' => ∃ (i : Nat) (t' : Lz.P) (v' : V), σ = [some gp, some v', some (.int (i : Nat)), some (.int (mo : Nat))] ∧ Kp [] H H' ∧ Dp K H' v' t'.data ∧ t'.okS (fs.map (·.1)) ∧ Spine t' m h ∧ i + m = n,
    ⟨n, 0, t, _, rfl, k2, Dp.keep k2 _ _ (data_fz _) hd, htk, hsp, Nat.zero_add _⟩, ?_⟩
  rintro m σ H3 ⟨i, t', v', rfl, k3, hd3, hk3, hs3, him⟩
  obtain ⟨a', xs', rfl, ht', hxs'⟩ := hd_at hd3
  refine ⟨_, rfl, a', _, _, _, rfl, rfl, ht', at_of (j := 0) rfl rfl, rfl, _, rfl, ?_⟩
  by_cases hg : t'.hd = "give"
  · refine ite2 (fun _ => ?_) (fun c => absurd (decide_eq_true (congrArg V.str hg)) c)
    refine ⟨_, rfl, _, rfl, _, _, rfl, rfl, _, rfl, ?_⟩
    have hm1 : 1 ≤ m := by
      cases hs3 with
      | stop e => exact absurd hg e
      | give _ => omega
    by_cases hlt : i < mo
    · refine ite2 (fun _ => ?_) (fun c => absurd (decide_eq_true (show (i : Int) < (mo : Int) by omega)) c)
      obtain ⟨x, y, rfl, hs4⟩ := (spine_hd hs3).2 hm1
      obtain ⟨p, va, vb, e, hpt, hda, hdb⟩ := give_at hd3
      obtain rfl := V.ref.inj e
      refine ⟨fun σ' H' => ∃ m', m' < m ∧ ∃ (i : Nat) (t' : Lz.P) (v' : V), σ' = [some gp, some v', some (.int (i : Nat)), some (.int (mo : Nat))] ∧ Kp [] H H' ∧ Dp K H' v' t'.data ∧ t'.okS (fs.map (·.1)) ∧ Spine t' m' h ∧ i + m' = n, fun σ' H' h => h, ?_⟩
      refine ⟨_, rfl, a', _, _, _, rfl, rfl, hpt, at_of (j := 1) rfl rfl, ?_⟩
      refine ⟨_, rfl, _, _, rfl, rfl, ?_⟩
      have hx : x.okS (fs.map (·.1)) := (show _ ∧ (Lz.P.okS _ x ∧ _) from hk3).2.1
      exact ⟨m - 1, by omega, i + 1, x, va, rfl, k3, hda, hx, hs4, by omega⟩
    · refine ite2 (fun c => absurd (of_decide_eq_true c) (show ¬ (i : Int) < (mo : Int) by omega)) (fun _ => ?_)
      refine ⟨_, rfl, a', _, _, _, rfl, rfl, ht', at_of (j := 0) rfl rfl, rfl, false, congrArg V.bl (decide_eq_false (fun e => ?_)), ?_⟩
      · rw [hg] at e
        exact absurd (V.str.inj e) (by decide +kernel)
      · rw [if_neg (fun e => nomatch e)]
        have q3 := q H3 k3
        have e : worthB fs n h = false := by
          by_cases hf : h.hd = "fun"
          · obtain ⟨f', rfl, hf'⟩ := hd_fun hhk hf
            rw [worth_fn]
            have := wants_le (f := f') hmo
            exact decide_eq_false (by omega)
          · rw [worth_not hf, decide_eq_false (show ¬ n = 0 by omega), Bool.false_and]
        rw [e] at q3
        exact q3
  · refine ite2 (fun c => absurd (V.str.inj (of_decide_eq_true c)) hg) (fun _ => ?_)
    obtain ⟨rfl, rfl⟩ := (spine_hd hs3).1 hg
    obtain rfl : i = n := by omega
    by_cases hf : h.hd = "fun"
    · obtain ⟨f', rfl, hf'⟩ := hd_fun hhk hf
      obtain ⟨j, g, hj, rfl⟩ := fn_get hf'
      obtain ⟨a2, e, hft⟩ := str_at (x := g.1) hd3 rfl
      obtain rfl := V.ref.inj e
      refine ⟨_, rfl, a', _, _, _, rfl, rfl, hft, at_of (j := 0) rfl rfl, rfl, true, congrArg V.bl (decide_eq_true rfl), ?_⟩
      rw [if_pos rfl]
      refine ⟨_, rfl, _, rfl, _, rfl, a', _, _, _, rfl, rfl, hft, at_of (j := 1) rfl rfl, gp, fs, d, j, g, rfl, Dp.keep k3 _ _ (progU_fz _ _) hp, hok, fns_get hj, fun H4 k4 => ?_⟩
      refine ⟨_, _, rfl, rfl, ?_⟩
      have q3 := q H4 (k3.trans k4)
      rw [worth_fn, wants_at hok.ndf hj] at q3
      have e : decide ((i : Int) < (g.2.1.length : Int)) = decide (i < g.2.1.length) := by
        rw [Bool.eq_iff_iff, decide_eq_true_iff, decide_eq_true_iff]
        omega
      show Q (V.bl (decide ((i : Int) < (g.2.1.length : Int)))) H4
      rw [e]
      exact q3
    · refine ⟨_, rfl, a', _, _, _, rfl, rfl, ht', at_of (j := 0) rfl rfl, rfl, false, congrArg V.bl (decide_eq_false (fun e => hf (V.str.inj e))), ?_⟩
      rw [if_neg (fun e => nomatch e)]
      have q3 := q H3 k3
      have hi : i ≠ 0 := fun e => by
        subst e
        cases hsp with
        | stop e3 => exact c1.elim e3 hf
      rw [worth_not hf, decide_eq_false hi, Bool.false_and] at q3
      exact q3
end
end Lz

set_option Elab.async false
set_option linter.all false
set_option maxRecDepth 100000
set_option maxHeartbeats 4000000
/-! Closed parts, and what one step of putting in makes of them: plain Lean. -/
namespace Lz
open PySem
mutual
/-- no name but those of sc is free; a shut part has none -/
def P.cl (sc : List Str) : P → Prop
  | .num _ => True
  | .nam x => x ∈ sc
  | .fn _ => True
  | .op k as => P.cls (if k = "shut" then [] else sc) as
  | .lt nm as b => P.cls (sc ++ nm) as ∧ P.cl (sc ++ nm) b
def P.cls (sc : List Str) : List P → Prop
  | [] => True
  | a :: as => P.cl sc a ∧ P.cls sc as
end
theorem cls_iff {sc : List Str} : ∀ {as : List P}, P.cls sc as ↔ ∀ a, a ∈ as → a.cl sc
  | [] => ⟨fun _ _ h => (nomatch h), fun _ => True.intro⟩
  | x :: xs => by
    show (P.cl sc x ∧ P.cls sc xs) ↔ _
    rw [cls_iff]
    refine ⟨fun h d m => ?_, fun h => ⟨h x List.mem_cons_self, fun d m => h d (List.mem_cons_of_mem _ m)⟩⟩
    rcases List.mem_cons.mp m with e | m
    · rw [e]; exact h.1
    · exact h.2 d m
theorem cl_op {sc : List Str} {k : Str} {as : List P} (hk : k ≠ "shut") : (P.op k as).cl sc ↔ P.cls sc as := by
  show P.cls (if k = "shut" then [] else sc) as ↔ _
  rw [if_neg hk]
mutual
theorem cl_of_fit {F : List Str} : ∀ (t : P) (sc : List Str), t.ok → t.fit F sc → t.cl sc
  | .num _, _, _, _ => True.intro
  | .nam _, _, _, h => h
  | .fn _, _, _, _ => True.intro
  | .op k as, sc, h, f => by
    have h' : (k, as.length) ∈ kinds ∧ P.oks as := h
    have hk : k ≠ "shut" := fun e => by
      have h0 : kinds.all (fun p => decide (p.1 ≠ "shut")) = true := by decide +kernel
      exact (of_decide_eq_true (List.all_eq_true.mp h0 _ h'.1)) e
    exact (cl_op hk).mpr (cls_of_fit as sc h'.2 f)
  | .lt nm as b, sc, h, f => ⟨cls_of_fit as _ h.2.2.1 f.2.2.1, cl_of_fit b _ h.2.2.2 f.2.2.2⟩
theorem cls_of_fit {F : List Str} : ∀ (as : List P) (sc : List Str), P.oks as → P.fits F as sc → P.cls sc as
  | [], _, _, _ => True.intro
  | a :: as, sc, h, f => ⟨cl_of_fit a sc h.1 f.1, cls_of_fit as sc h.2 f.2⟩
end
mutual
theorem cl_mono : ∀ (t : P) {sc sd : List Str}, (∀ x, x ∈ sc → x ∈ sd) → t.cl sc → t.cl sd
  | .num _, _, _, _, _ => True.intro
  | .nam x, _, _, m, h => m x h
  | .fn _, _, _, _, _ => True.intro
  | .op k as, sc, sd, m, h => by
    have h' : P.cls (if k = "shut" then [] else sc) as := h
    show P.cls (if k = "shut" then [] else sd) as
    by_cases e : k = "shut"
    · rw [if_pos e] at h' ⊢
      exact h'
    · rw [if_neg e] at h' ⊢
      exact cls_mono as m h'
  | .lt nm as b, sc, sd, m, h => by
    have m' : ∀ x, x ∈ sc ++ nm → x ∈ sd ++ nm := fun x hx => (List.mem_append.mp hx).elim (fun h => List.mem_append_left _ (m x h)) (fun h => List.mem_append_right _ h)
    exact ⟨cls_mono as m' h.1, cl_mono b m' h.2⟩
theorem cls_mono : ∀ (as : List P) {sc sd : List Str}, (∀ x, x ∈ sc → x ∈ sd) → P.cls sc as → P.cls sd as
  | [], _, _, _, _ => True.intro
  | a :: as, _, _, m, h => ⟨cl_mono a m h.1, cls_mono as m h.2⟩
end
section
variable {th : List (Str × P)}
mutual
/-- what is put in closes -/
theorem cl_put (hc : ∀ x p, (x, p) ∈ th → p.cl []) : ∀ (t : P) {sc sd : List Str}, (∀ x, x ∈ sc → x ∈ sd ∨ getT th x ≠ none) → t.cl sc → (P.put th t).cl sd
  | .num _, _, _, _, _ => True.intro
  | .nam x, sc, sd, m, h => by
    cases e : getT th x with
    | some p =>
      obtain ⟨y, hy⟩ := getT_mem e
      rw [put_name e]
      show P.cls (if ("shut" : Str) = "shut" then [] else sd) [p]
      rw [if_pos rfl]
      exact ⟨hc y p hy, True.intro⟩
    | none =>
      rw [put_name0 e]
      exact (m x h).elim id fun q => absurd e q
  | .fn _, _, _, _, _ => True.intro
  | .op k as, sc, sd, m, h => by
    have h' : P.cls (if k = "shut" then [] else sc) as := h
    show P.cls (if k = "shut" then [] else sd) (if k = "shut" then as else P.puts th as)
    by_cases e : k = "shut"
    · rw [if_pos e] at h' ⊢
      rw [if_pos e]
      exact h'
    · rw [if_neg e] at h' ⊢
      rw [if_neg e]
      exact cls_put hc as m h'
  | .lt nm as b, sc, sd, m, h => by
    have m' : ∀ x, x ∈ sc ++ nm → x ∈ sd ++ nm ∨ getT th x ≠ none := fun x hx => (List.mem_append.mp hx).elim (fun h => (m x h).imp (List.mem_append_left _) id) (fun h => .inl (List.mem_append_right _ h))
    exact ⟨cls_put hc as m' h.1, cl_put hc b m' h.2⟩
theorem cls_put (hc : ∀ x p, (x, p) ∈ th → p.cl []) : ∀ (as : List P) {sc sd : List Str}, (∀ x, x ∈ sc → x ∈ sd ∨ getT th x ≠ none) → P.cls sc as → P.cls sd (P.puts th as)
  | [], _, _, _, _ => True.intro
  | a :: as, _, _, m, h => ⟨cl_put hc a m h.1, cls_put hc as m h.2⟩
end
end
/-! ### how deep a layer is, how many parts a let has within -/
mutual
/-- each shut part's layer at most W deep, each let's inner part of at most M -/
def P.lay (W M : Nat) : P → Prop
  | .num _ => True
  | .nam _ => True
  | .fn _ => True
  | .op k as => (k = "shut" → P.dws as ≤ W) ∧ P.lays W M as
  | .lt _ as b => b.mw ≤ M ∧ P.lays W M as ∧ P.lay W M b
def P.lays (W M : Nat) : List P → Prop
  | [] => True
  | a :: as => P.lay W M a ∧ P.lays W M as
end
theorem lays_iff {W M : Nat} : ∀ {as : List P}, P.lays W M as ↔ ∀ a, a ∈ as → a.lay W M
  | [] => ⟨fun _ _ h => (nomatch h), fun _ => True.intro⟩
  | x :: xs => by
    show (P.lay W M x ∧ P.lays W M xs) ↔ _
    rw [lays_iff]
    refine ⟨fun h d m => ?_, fun h => ⟨h x List.mem_cons_self, fun d m => h d (List.mem_cons_of_mem _ m)⟩⟩
    rcases List.mem_cons.mp m with e | m
    · rw [e]; exact h.1
    · exact h.2 d m
section
variable {th : List (Str × P)} {W M : Nat}
mutual
theorem lay_put (hl : ∀ x p, (x, p) ∈ th → p.lay W M ∧ p.dw ≤ W) : ∀ t : P, t.lay W M → (P.put th t).lay W M
  | .num _, _ => True.intro
  | .nam x, h => by
    cases e : getT th x with
    | some p =>
      obtain ⟨y, hy⟩ := getT_mem e
      have q := hl y p hy
      rw [put_name e]
      refine ⟨fun _ => ?_, q.1, True.intro⟩
      show max p.dw 0 ≤ W
      have := q.2
      omega
    | none => rw [put_name0 e]; exact h
  | .fn _, _ => True.intro
  | .op k as, h => by
    have h' : (k = "shut" → P.dws as ≤ W) ∧ P.lays W M as := h
    show (k = "shut" → P.dws (if k = "shut" then as else P.puts th as) ≤ W) ∧ P.lays W M (if k = "shut" then as else P.puts th as)
    by_cases e : k = "shut"
    · rw [if_pos e]; exact h'
    · rw [if_neg e]; exact ⟨fun q => absurd q e, lays_put hl as h'.2⟩
  | .lt nm as b, h => by
    have h' : b.mw ≤ M ∧ P.lays W M as ∧ P.lay W M b := h
    refine ⟨?_, lays_put hl as h'.2.1, lay_put hl b h'.2.2⟩
    rw [mw_put]
    exact h'.1
theorem lays_put (hl : ∀ x p, (x, p) ∈ th → p.lay W M ∧ p.dw ≤ W) : ∀ as : List P, P.lays W M as → P.lays W M (P.puts th as)
  | [], _ => True.intro
  | a :: as, h => ⟨lay_put hl a h.1, lays_put hl as h.2⟩
end
end
mutual
/-- a part without shut ones -/
theorem lay_ok {W M : Nat} : ∀ t : P, t.ok → t.mw ≤ M → t.lay W M
  | .num _, _, _ => True.intro
  | .nam _, _, _ => True.intro
  | .fn _, _, _ => True.intro
  | .op k as, h, hm => by
    have h' : (k, as.length) ∈ kinds ∧ P.oks as := h
    have hk : k ≠ "shut" := fun e => by
      have h0 : kinds.all (fun p => decide (p.1 ≠ "shut")) = true := by decide +kernel
      exact (of_decide_eq_true (List.all_eq_true.mp h0 _ h'.1)) e
    have h1 := mw_win (P.op k as)
    have h2 : (P.op k as).win = as := if_neg hk
    rw [h2] at h1
    exact ⟨fun e => absurd e hk, lays_ok as h'.2 (by omega)⟩
  | .lt nm as b, h, hm => by
    have h' : nm.length = as.length ∧ (∀ x, x ∈ nm → nmOk x) ∧ P.oks as ∧ P.ok b := h
    have h1 := mw_win (P.lt nm as b)
    have h2 : P.mws (P.lt nm as b).win = P.mws as + b.mw := by
      show P.mws (as ++ [b]) = _
      rw [mws_append, mws_one]
    exact ⟨by omega, lays_ok as h'.2.2.1 (by omega), lay_ok b h'.2.2.2 (by omega)⟩
theorem lays_ok {W M : Nat} : ∀ as : List P, P.oks as → P.mws as ≤ M → P.lays W M as
  | [], _, _ => True.intro
  | a :: as, h, hm => by
    have h2 : P.mws (a :: as) = a.mw + P.mws as := by
      show (a.alw ++ P.alws as).length = _
      rw [List.length_append]
      rfl
    exact ⟨lay_ok a h.1 (by omega), lays_ok as h.2 (by omega)⟩
end
end Lz

set_option Elab.async false
set_option linter.all false
set_option maxRecDepth 100000
set_option maxHeartbeats 4000000
/-! dict(zip(a tuple, a list)). -/
namespace StZ
open PySem PySem.Spec PyProof.Rows L2 RZ
section
variable {P : Program} {w : World} {A : Around} {E : Value → Shared → Prop} {t : Shared}
/-- what a turn leaves while the pair given out before is still there -/
def Kept3 (h g : Heap) (q u v : Addr) : Prop := ∀ c o, c ≠ q → c ≠ u → c ≠ v → h.get? c = some o → g.get? c = some o
theorem held_turn {q I O T u v a b : Addr} {f : Bool} {oT : Obj} {i j : Nat} {xs ys : Array Value} {x y : Value} {Q : Value → Shared → Prop} (Ap : ZipApart q I O u v a b) (zq : IsZipHeld t.heap q I O T f) (zT : t.heap.get? T = some oT) (zi : IsPair t.heap I (.ref u) (.ref v)) (S : At t.heap q I O u v a b i j xs ys) (ex : xs[i]? = some x) (ey : ys[j]? = some y)
    (k : ∀ g, IsZipHeld g q I O T true → g.IsTupleIter u a (i + 1) → g.IsListIter v b (j + 1) → IsPair g t.heap.objs.size x y → g.objs.size = t.heap.objs.size + 1 → Kept3 t.heap g q u v → Q (.ref t.heap.objs.size) { t with heap := g }) :
    wpAny (model P w) A (Builtin.«zip.__next__» ⟨[.ref q], []⟩) (fun fi t' => ∃ r, fi = .done (.ret r) ∧ Q r t') E t := by
  show wpAny _ _ (field (.ref q) 2 >>= _) _ _ _
  refine wpAny_bind (wpAny_field zq rfl (x := .bool false) rfl ?_); show wpAny _ _ (field (.ref q) 3 >>= _) _ _ _
  refine wpAny_bind (wpAny_field zq rfl (x := .ref I) rfl (wpAny_bind (wpAny_seqItems zi rfl ?_)))
  show wpAny _ _ (Builtin.SmallTypes.ownedTupleIsFree (.ref q) >>= _) _ _ _
  refine wpAny_bind (wpAny_tupleHeld_zip zq zT fun g1 zq1 s1 => ?_)
  simp only [Bool.false_eq_true, if_false]
  refine wpAny_bind ?_
  rw [← Array.forIn_toList]
  simp only [List.forIn_cons, List.forIn_nil]
  refine wpAny_bind (wpAny_bind (wpAny_holding ?_)); show wpAny _ _ (Builtin.SmallTypes.nextOf (.ref u) >>= _) _ _ _
  refine wpAny_bind (nextOf_tuple_item (S.u1.extBut s1.extBut Ap.i1z) (S.a1.extBut s1.extBut Ap.l1z) ex fun g2 u2 s2 => wpAny_pure (wpAny_pure ?_))
  refine wpAny_bind (wpAny_bind (wpAny_holding ?_)); show wpAny _ _ (Builtin.SmallTypes.nextOf (.ref v) >>= _) _ _ _
  refine wpAny_bind (wpAny_nextOf_list_item ((S.v1.extBut s1.extBut Ap.i2z).extBut s2.extBut Ap.i12.symm) ((S.b1.extBut s1.extBut Ap.l2z).extBut s2.extBut Ap.l2i1) ey fun g3 v3 s3 => wpAny_pure (wpAny_pure (wpAny_pure ?_)))
  show wpAny _ _ (newTuple [x, y] >>= _) _ _ _
  refine wpAny_bind (wpAny_newTuple ?_)
  have big : g3.objs.size = t.heap.objs.size := by rw [s3.1, s2.1, s1.1]
  have zq3 : IsZipHeld g3 q I O T true := s3.extBut _ _ Ap.i2z.symm (s2.extBut _ _ Ap.i1z.symm zq1)
  have all3 : Kept3 t.heap g3 q u v := fun c o n1 n2 n3 e => s3.extBut _ _ n3 (s2.extBut _ _ n2 (s1.extBut _ _ n1 e))
  have u3 := u2.extBut s3.extBut Ap.i12
  refine wpAny_pure ⟨_, rfl, ?_⟩
  show Q (.ref g3.objs.size) _
  have two : IsPair (g3.push { cls := .type "tuple", data := .seq #[x, y] }) g3.objs.size x y := Heap.get?_push_size _ rfl
  have sz : (g3.push { cls := .type "tuple", data := .seq #[x, y] }).objs.size = g3.objs.size + 1 := Heap.size_push ..
  rw [big] at two sz ⊢
  exact k _ (Heap.get?_push_of_some _ zq3) (u3.at fun o e => Heap.get?_push_of_some _ e) (v3.at fun o e => Heap.get?_push_of_some _ e) two sz fun c o n1 n2 n3 e => Heap.get?_push_of_some _ (all3 c o n1 n2 n3 e)
theorem held_end {q I O T u v a b : Addr} {f : Bool} {oT : Obj} {i j : Nat} {xs ys : Array Value} {Q : Fin → Shared → Prop} (hh : A.handled = none) (Ap : ZipApart q I O u v a b) (zq : IsZipHeld t.heap q I O T f) (zT : t.heap.get? T = some oT) (zi : IsPair t.heap I (.ref u) (.ref v)) (S : At t.heap q I O u v a b i j xs ys) (over : xs[i]? = none ∨ ys[j]? = none)
    (k : ∀ g e, Kept3 t.heap g q u v → (∃ o, g.get? e = some o ∧ o.cls = .type "StopIteration") → E (.ref e) { t with heap := g }) : wpAny (model P w) A (Builtin.«zip.__next__» ⟨[.ref q], []⟩) Q E t := by
  show wpAny _ _ (field (.ref q) 2 >>= _) _ _ _
  refine wpAny_bind (wpAny_field zq rfl (x := .bool false) rfl ?_); show wpAny _ _ (field (.ref q) 3 >>= _) _ _ _
  refine wpAny_bind (wpAny_field zq rfl (x := .ref I) rfl (wpAny_bind (wpAny_seqItems zi rfl ?_)))
  show wpAny _ _ (Builtin.SmallTypes.ownedTupleIsFree (.ref q) >>= _) _ _ _
  refine wpAny_bind (wpAny_tupleHeld_zip zq zT fun g1 zq1 s1 => ?_)
  simp only [Bool.false_eq_true, if_false]
  refine wpAny_bind ?_
  rw [← Array.forIn_toList]
  simp only [List.forIn_cons, List.forIn_nil]
  refine wpAny_bind (wpAny_bind (wpAny_holding ?_)); show wpAny _ _ (Builtin.SmallTypes.nextOf (.ref u) >>= _) _ _ _
  cases ex : xs[i]? with
  | none => exact wpAny_bind (nextOf_tuple_end hh (S.u1.extBut s1.extBut Ap.i1z) (S.a1.extBut s1.extBut Ap.l1z) ex fun g2 e s2 he => k g2 e (fun c o n1 n2 _ z => s2 _ _ n2 (s1.extBut _ _ n1 z)) he)
  | some x =>
    have ey : ys[j]? = none := over.elim (fun z => by rw [ex] at z; cases z) id
    refine wpAny_bind (nextOf_tuple_item (S.u1.extBut s1.extBut Ap.i1z) (S.a1.extBut s1.extBut Ap.l1z) ex fun g2 u2 s2 => wpAny_pure (wpAny_pure ?_))
    refine wpAny_bind (wpAny_bind (wpAny_holding ?_)); show wpAny _ _ (Builtin.SmallTypes.nextOf (.ref v) >>= _) _ _ _
    exact wpAny_bind (wpAny_nextOf_list_end hh ((S.v1.extBut s1.extBut Ap.i2z).extBut s2.extBut Ap.i12.symm) ((S.b1.extBut s1.extBut Ap.l2z).extBut s2.extBut Ap.l2i1) ey fun g3 e s3 he => k g3 e (fun c o n1 n2 n3 z => s3 _ _ n3 (s2.extBut _ _ n2 (s1.extBut _ _ n1 z))) he)
theorem next_held {q I O T u v a b : Addr} {f : Bool} {oT : Obj} {i j : Nat} {xs ys : Array Value} {x y : Value} {Q : Option Value → Shared → Prop} (Ap : ZipApart q I O u v a b) (zq : IsZipHeld t.heap q I O T f) (zT : t.heap.get? T = some oT) (zi : IsPair t.heap I (.ref u) (.ref v)) (S : At t.heap q I O u v a b i j xs ys) (ex : xs[i]? = some x) (ey : ys[j]? = some y)
    (k : ∀ g, IsZipHeld g q I O T true → g.IsTupleIter u a (i + 1) → g.IsListIter v b (j + 1) → IsPair g t.heap.objs.size x y → g.objs.size = t.heap.objs.size + 1 → Kept3 t.heap g q u v → Q (some (.ref t.heap.objs.size)) { t with heap := g }) : wpAny (model P w) A (pyNext (.ref q)) Q E t := by
  have ty : t.TypeIs (.ref q) "zip" := ⟨_, zq, rfl⟩
  unfold pyNext
  exact wpAny_bind (wpAny_attempt (wpAny_callSpecial?_slot (name := Str.ofString "__next__") ty F.slot_zip_next (wpAny_call_entry F.slot_zip_next ty F.entry_zip_next (held_turn Ap zq zT zi S ex ey fun g k1 k2 k3 k4 k5 k6 => wpAny_pure (k g k1 k2 k3 k4 k5 k6)) (F.args_zip_next_1 _))))
theorem next_over {q I O T u v a b : Addr} {f : Bool} {oT : Obj} {i j : Nat} {xs ys : Array Value} {Q : Option Value → Shared → Prop} (hh : A.handled = none) (Ap : ZipApart q I O u v a b) (zq : IsZipHeld t.heap q I O T f) (zT : t.heap.get? T = some oT) (zi : IsPair t.heap I (.ref u) (.ref v)) (S : At t.heap q I O u v a b i j xs ys) (over : xs[i]? = none ∨ ys[j]? = none)
    (k : ∀ g, Kept3 t.heap g q u v → Q none { t with heap := g }) : wpAny (model P w) A (pyNext (.ref q)) Q E t := by
  have ty : t.TypeIs (.ref q) "zip" := ⟨_, zq, rfl⟩
  unfold pyNext
  refine wpAny_bind (wpAny_attempt (wpAny_callSpecial?_slot (name := Str.ofString "__next__") ty F.slot_zip_next (wpAny_call_entry F.slot_zip_next ty F.entry_zip_next (held_end hh Ap zq zT zi S over fun g e kk ⟨o, o1, o2⟩ => ?_) (F.args_zip_next_1 _))))
  exact wpAny_bind (wpAny_isInstance (T := "StopIteration") (b := true) ⟨o, o1, o2⟩ isSubtype_stop (wpAny_pure (k g kk)))
theorem mixArg (q I O u v a b : Addr) (D : ZipApart q I O u v a b) (xs ys : Array Value) :
    PairArg P w "zip" q [q, I, O, u, v, a, b] [q, O, u, v] (min xs.size ys.size) (fun i k v => xs[i]? = some k ∧ ys[i]? = some v)
      (fun h => IsZip h q I O .none ∧ IsPair h I (.ref u) (.ref v) ∧ (∃ x y, IsPair h O x y) ∧ At h q I O u v a b 0 0 xs ys) where
  type := fun s ok => ⟨_, ok.1, rfl⟩
  notDict := by decide
  keep := fun h h' ⟨hz, hi, ⟨x, y, ho⟩, S⟩ k => ⟨k _ _ hz, k _ _ hi, ⟨x, y, k _ _ ho⟩, ⟨S.u1.at fun o e => k _ o e, S.v1.at fun o e => k _ o e, S.a1.at fun o e => k _ o e, S.b1.at fun o e => k _ o e⟩⟩
  there := fun h ⟨hz, hi, ⟨x, y, ho⟩, ⟨⟨o1, h1, _⟩, ⟨o2, h2, _⟩, ⟨o3, h3, _⟩, ⟨o4, h4, _⟩⟩⟩ c hc => by
    simp only [List.mem_cons, List.not_mem_nil, or_false] at hc
    rcases hc with rfl | rfl | rfl | rfl | rfl | rfl | rfl
    all_goals first | exact ⟨_, hz⟩ | exact ⟨_, hi⟩ | exact ⟨_, ho⟩ | exact ⟨_, h1⟩ | exact ⟨_, h2⟩ | exact ⟨_, h3⟩ | exact ⟨_, h4⟩
  sub := fun c hc => by simp at hc ⊢; rcases hc with rfl | rfl | rfl | rfl <;> simp
  noKeys := fun A s Q E hA ok h => getAttrOr_miss_zip ok.1 rfl rfl rfl zip_no_keys (by decide +kernel) hA h
  iter := fun A s d Q E hA ⟨hz, hi, ⟨x0, y0, ho⟩, S⟩ hd hdf h => by
    simp only [List.mem_cons, List.not_mem_nil, or_false, not_or] at hdf
    obtain ⟨dz, dI, dO, du, dv, da, db⟩ := hdf
    refine wpAny_pyIter_zip hz (h q [q, O, u, v] (fun i h => IsPair h I (.ref u) (.ref v) ∧ At h q I O u v a b i i xs ys ∧
      ((IsZip h q I O .none ∧ ∃ x y, IsPair h O x y) ∨ ∃ T f oT, IsZipHeld h q I O T f ∧ h.get? T = some oT ∧ T ≠ q ∧ T ≠ u ∧ T ≠ v ∧ T ≠ d)) s.heap s.toks ?_
      ⟨hi, S, .inl ⟨hz, x0, y0, ho⟩⟩ (fun _ _ e => e) fun c hc => .inl hc)
    exact {
      off := fun hm => by
        simp only [List.mem_cons, List.not_mem_nil, or_false] at hm
        rcases hm with e | e | e | e
        · exact dz e
        · exact dO e
        · exact du e
        · exact dv e
      frame := fun i h1 h2 ⟨hi, S, hz⟩ k => by
        refine ⟨k _ _ (Ne.symm dI) hi, ⟨S.u1.at fun o e => k _ o (Ne.symm du) e, S.v1.at fun o e => k _ o (Ne.symm dv) e, S.a1.at fun o e => k _ o (Ne.symm da) e, S.b1.at fun o e => k _ o (Ne.symm db) e⟩, ?_⟩
        rcases hz with ⟨hz, x, y, ho⟩ | ⟨T, f, oT, hz, hT, r1, r2, r3, r4⟩
        · exact .inl ⟨k _ _ (Ne.symm dz) hz, x, y, k _ _ (Ne.symm dO) ho⟩
        · exact .inr ⟨T, f, oT, k _ _ (Ne.symm dz) hz, k _ _ r4 hT, r1, r2, r3, r4⟩
      item := fun i s1 Q1 E1 hlt ⟨hi, S, hz⟩ hds hQ => by
        have ix : i < xs.size := Nat.lt_of_lt_of_le hlt (Nat.min_le_left ..)
        have iy : i < ys.size := Nat.lt_of_lt_of_le hlt (Nat.min_le_right ..)
        have ex := Array.getElem?_eq_getElem ix
        have ey := Array.getElem?_eq_getElem iy
        have lt : ∀ {c o}, s1.heap.get? c = some o → s1.heap.objs.size ≠ c := fun e => Nat.ne_of_gt (Heap.lt_size e)
        have n1 : s1.heap.objs.size ≠ u := let ⟨_, e, _⟩ := S.u1; lt e
        have n2 : s1.heap.objs.size ≠ v := let ⟨_, e, _⟩ := S.v1; lt e
        rcases hz with ⟨hz, x, y, ho⟩ | ⟨T, f, oT, hz, hT, r1, r2, r3, r4⟩
        · refine next_turn D hz hi ho S ex ey fun g k1 k2 k3 k4 k5 k6 k => ?_
          exact hQ s1.heap.objs.size _ _ g s1.toks ⟨ex, ey⟩ (.inl ⟨_, k5, rfl, _, rfl⟩)
            ⟨k _ _ D.TIz D.TITO D.TIi1 D.TIi2 hi, ⟨k3, k4, S.a1.at fun o e => k _ o D.l1z D.l1TO D.l1i1 D.l1i2 e, S.b1.at fun o e => k _ o D.l2z D.l2TO D.l2i1 D.l2i2 e⟩, .inr ⟨s1.heap.objs.size, false, _, k1, k5, lt hz, n1, n2, Nat.ne_of_gt hds⟩⟩
            fun c o hc e => k c o (fun x => hc (by simp [x])) (fun x => hc (by simp [x])) (fun x => hc (by simp [x])) (fun x => hc (by simp [x])) e
        · refine next_held D hz hT hi S ex ey fun g k1 k3 k4 k5 k6 k => ?_
          exact hQ s1.heap.objs.size _ _ g s1.toks ⟨ex, ey⟩ (.inl ⟨_, k5, rfl, _, rfl⟩)
            ⟨k _ _ D.TIz D.TIi1 D.TIi2 hi, ⟨k3, k4, S.a1.at fun o e => k _ o D.l1z D.l1i1 D.l1i2 e, S.b1.at fun o e => k _ o D.l2z D.l2i1 D.l2i2 e⟩, .inr ⟨T, true, oT, k1, k _ _ r1 r2 r3 hT, r1, r2, r3, r4⟩⟩
            fun c o hc e => k c o (fun x => hc (by simp [x])) (fun x => hc (by simp [x])) (fun x => hc (by simp [x])) e
      done := fun s1 Q1 E1 ⟨hi, S, hz⟩ hQ => by
        have over : xs[min xs.size ys.size]? = none ∨ ys[min xs.size ys.size]? = none := by
          rcases Nat.le_total xs.size ys.size with h | h
          · exact .inl (Array.getElem?_eq_none (by rw [Nat.min_eq_left h]; exact Nat.le_refl _))
          · exact .inr (Array.getElem?_eq_none (by rw [Nat.min_eq_right h]; exact Nat.le_refl _))
        rcases hz with ⟨hz, x, y, ho⟩ | ⟨T, f, oT, hz, hT, r1, r2, r3, r4⟩
        · exact next_end hA D hz hi ho S over fun g k => hQ g s1.toks fun c o hc e => k c o (fun x => hc (by simp [x])) (fun x => hc (by simp [x])) (fun x => hc (by simp [x])) (fun x => hc (by simp [x])) e
        · exact next_over hA D hz hT hi S over fun g k => hQ g s1.toks fun c o hc e => k c o (fun x => hc (by simp [x])) (fun x => hc (by simp [x])) (fun x => hc (by simp [x])) e }
end
end StZ

set_option Elab.async false
set_option linter.all false
set_option maxRecDepth 100000
set_option maxHeartbeats 4000000
namespace StZ
open PySem PySem.Spec PyProof.Rows L2 RZ
section
variable {X : Cx} {K : PySem.W.Frag}
/-- dict(zip(names, things)) -/
def tDictZip (K : PySem.W.Frag) (ta : TA) : TE := fun σ H Q => ta σ H fun vs H1 => ∃ (a b : Addr) (kvs : List (Key × V)), vs = [.ref a, .ref b] ∧ SqT K H1 a (kvs.map fun p => kV p.1) ∧ SqL K H1 b (kvs.map (·.2)) ∧ kvs.length ≤ 1000 ∧ ∀ p, H1 p = none → Q (.ref p) (upd H1 p (.dK (mergeK [] kvs)))
theorem pairs_of {P : Program} {w : World} {kvs : List (Key × V)} {us ws : List Value} (h1 : Vals (kvs.map fun p => kV p.1) us) (h2 : Vals (kvs.map (·.2)) ws) : ∃ rs : List (Key × Value), KV kvs rs ∧ rs.length = us.length ∧ ws.length = us.length ∧ ∀ (i : Nat) (u v : Value), us[i]? = some u → ws[i]? = some v → ∃ k, rs[i]? = some (k, v) ∧ (mixKind P w).is k u = true := by
  induction kvs generalizing us ws with
  | nil =>
    cases h1
    cases h2
    exact ⟨[], .nil, rfl, rfl, fun i u v e => by cases e⟩
  | cons p r ih =>
    cases h1 with
    | cons a1 b1 =>
      cases h2 with
      | cons a2 b2 =>
        rename_i u us v ws
        obtain ⟨rs, k1, k2, k3, k4⟩ := ih b1 b2
        refine ⟨(p.1, v) :: rs, .cons ⟨rfl, a2⟩ k1, by rw [List.length_cons, List.length_cons, k2], by rw [List.length_cons, List.length_cons, k3], fun i u' v' e1 e2 => ?_⟩
        cases i with
        | zero =>
          rw [List.getElem?_cons_zero] at e1 e2
          cases e1
          cases e2
          exact ⟨p.1, rfl, kV_is a1⟩
        | succ i =>
          rw [List.getElem?_cons_succ] at e1 e2
          exact k4 i u' v' e1 e2
theorem pe_dictZip {e e2 : Expr} {ta : TA} {p p2 pos pos2 : Pos} (hK : X.K = K) (hgd : Gl X "dict") (hmd : X.mg "dict" = none) (hg : Gl X "zip") (hm : X.mg "zip" = none) (ha : PA X [e, e2] ta) (hc : X.calm = true)
    (na : starEach [.Call (.Name "zip" p2) [e, e2] [] pos2] X.env = (false, eval (.Call (.Name "zip" p2) [e, e2] [] pos2) X.env) :: starEach [] X.env := by rfl)
    (hs : starEach [e, e2] X.env = (false, eval e X.env) :: starEach [e2] X.env := by rfl) (hpl : (backTo pos2 (starEach [e2] X.env)).any (·.1) = false := by rfl) :
    PE X (.Call (.Name "dict" p) [.Call (.Name "zip" p2) [e, e2] [] pos2] [] pos) (tDictZip K ta) := by
  subst hK
  refine ⟨fun pins s σ H Q I h => ?_⟩
  refine Call_ (ld_blt I hgd hmd PyProof.Rows.boot_dict ?_)
  refine PyProof.Rows.callWith_type1 (PyProof.Rows.args_cons ?_ na) na rfl
  refine Call_ (ld_blt I hg hm PyProof.Rows.boot_zip (PyProof.Rows.callWith_type1 (thn (ha.run pos2 pins s σ H _ I h) fun us s1 ⟨vs, H1, I1, r1, q1⟩ => ?_) hs hpl))
  obtain ⟨a, b, kvs, rfl, qx, qy, hl, q⟩ := q1
  cases r1 with
  | cons r rr =>
    cases rr with
    | cons r' rr =>
      cases rr
      cases r
      cases r'
      obtain ⟨m1, rv, p1, _⟩ := I1.tuple qx
      obtain ⟨m2, rv2, p2', _⟩ := I1.list qy
      obtain ⟨rs, kv, l1, l2, hv⟩ := pairs_of (P := X.prog) (w := X.w) rv rv2
      obtain ⟨o1, ho1, _⟩ := id p1
      have t1 : s1.heap.IsTuple a m1.toArray := p1
      refine call_made t1 p2'.isList fun g hz hi ho h1 h2 k => PyProof.Rows.args_nil ?_
      have S : At g (s1.heap.objs.size + 4) (s1.heap.objs.size + 2) (s1.heap.objs.size + 3) s1.heap.objs.size (s1.heap.objs.size + 1) a b 0 0 m1.toArray m2.toArray := ⟨h1, h2, t1.at fun o e => k _ o e, p2'.isList.at fun o e => k _ o e⟩
      have ml : min m1.toArray.size m2.toArray.size = rs.length := by
        rw [List.size_toArray, List.size_toArray, l2, l1]
        exact Nat.min_self _
      have rl : rs.length = kvs.length := (KV.length kv).symm
      refine call_dict_pairs (knd := mixKind X.prog X.w) (kvs := rs) (mixArg (P := X.prog) (w := X.w) _ _ _ _ _ a b (PySem.W.ktu_apart s1.heap.objs.size a b (Heap.lt_size ho1) p2'.lt) m1.toArray m2.toArray) (I1.ok.hd hc) ⟨hz, hi, ⟨_, _, ho⟩, S⟩ ⟨ml.symm, fun i u v e => ?_⟩ (by rw [ml, rl]; exact Nat.le_trans hl (by decide)) fun h' tk hd hk => ?_
      · exact hv i u v (by simpa using e.1) (by simpa using e.2)
      · have lz : s1.heap.objs.size + 4 < g.objs.size := Heap.lt_size hz
        have le : s1.heap.objs.size ≤ g.objs.size := Nat.le_of_lt (Nat.lt_of_le_of_lt (Nat.le_add_right _ 4) lz)
        have hs : (g.objs.size == sysModules) = false := beq_eq_false_iff_ne.mpr (Nat.ne_of_gt (Nat.lt_of_lt_of_le I1.big le))
        have keep : ∀ c o, s1.heap.get? c = some o → h'.get? c = some o := fun c o e => hk c o (fun m => by
          have lt := Heap.lt_size e
          simp only [List.mem_cons, List.not_mem_nil, or_false] at m
          rcases m with z | z | z | z
          · rw [z] at lt; exact Nat.not_lt.mpr (Nat.le_add_right _ _) lt
          · rw [z] at lt; exact Nat.not_lt.mpr (Nat.le_add_right _ _) lt
          · rw [z] at lt; exact Nat.lt_irrefl _ lt
          · rw [z] at lt; exact Nat.not_lt.mpr (Nat.le_add_right _ _) lt) (k c o e)
        have hml := length_mergeK kvs []
        rw [List.length_nil, Nat.zero_add] at hml
        exact ⟨.ref g.objs.size, upd H1 g.objs.size (.dK (mergeK [] kvs)), I1.laid (t' := tk) keep le
          (show ObjOk X.prog X.w _ _ _ (.dK (mergeK [] kvs)) from ⟨Nat.le_trans hml (Nat.le_trans hl (by decide)), hs, merged [] rs, KV.merge kv .nil, hd⟩), rfl, q _ (I1.hok.fresh le)⟩
end
end StZ

set_option Elab.async false
set_option linter.all false
set_option maxRecDepth 100000
set_option maxHeartbeats 4000000
/-! A row of gives; names with things; dicts that are filled one by one. -/
namespace Lz
open PySem PySem.Spec PyProof.Rows L2
/-- what stands at the head of gives, and the things, in their order -/
inductive Gv : P → P → List P → Prop
  | stop {t : P} (h : t.hd ≠ "give") : Gv t t []
  | give {a b h : P} {ts : List P} : Gv a h ts → Gv (.op "give" [a, b]) h (ts ++ [b])
theorem Gv.spine {t h : P} {ts : List P} (g : Gv t h ts) : Spine t ts.length h := by
  induction g with
  | stop e => exact .stop e
  | give _ ih => rw [List.length_append]; exact .give ih
theorem Gv.hd {t h : P} {ts : List P} (g : Gv t h ts) : h.hd ≠ "give" := by
  induction g with
  | stop e => exact e
  | give _ ih => exact ih
theorem gv_ex {F : List Str} : ∀ (n : Nat) (t : P), t.many ≤ n → t.okS F → ∃ h ts, Gv t h ts ∧ h.okS F ∧ ∀ x, x ∈ ts → x.okS F := fun n => by
  induction n with
  | zero =>
    intro t hn _
    have := many_pos t
    omega
  | succ n ih =>
    intro t hn ho
    by_cases e : t.hd = "give"
    · cases t with
      | num i => exact absurd (show ("number" : Str) = "give" from e) (by decide +kernel)
      | nam i => exact absurd (show ("name" : Str) = "give" from e) (by decide +kernel)
      | fn i => exact absurd (show ("fun" : Str) = "give" from e) (by decide +kernel)
      | lt nm as b => exact absurd (show ("let" : Str) = "give" from e) (by decide +kernel)
      | op k as =>
        obtain rfl : k = "give" := e
        have ho' : (("give" : Str), as.length) ∈ kinds2 ∧ P.okSs F as := ho
        have h2 := give_two ho'.1
        match as, h2, ho' with
        | [a, b], _, ho' =>
          have hm : 1 + (a.many + (b.many + 0)) ≤ n + 1 := hn
          obtain ⟨h, ts, g, h1, h3⟩ := ih a (by omega) ho'.2.1
          refine ⟨h, ts ++ [b], .give g, h1, fun x m => ?_⟩
          rcases List.mem_append.mp m with m | m
          · exact h3 x m
          · rw [List.mem_singleton.mp m]
            exact ho'.2.2.1
    · exact ⟨t, [], .stop e, ho, fun _ m => nomatch m⟩
/-! ### names with things -/
def putT (th : List (Str × P)) (x : Str) (p : P) : List (Str × P) :=
  if (th.any fun q => decide (q.1 = x)) = true then th.map (fun q => if q.1 = x then (q.1, p) else q) else th ++ [(x, p)]
def mergeT (th : List (Str × P)) : List (Str × P) → List (Str × P)
  | [] => th
  | q :: r => mergeT (putT th q.1 q.2) r
theorem putT_mem {th : List (Str × P)} {x y : Str} {p q : P} (h : (y, q) ∈ putT th x p) : q = p ∨ (y, q) ∈ th := by
  unfold putT at h
  split at h
  · obtain ⟨z, hz, e⟩ := List.mem_map.mp h
    by_cases c : z.1 = x
    · rw [if_pos c] at e
      exact .inl (Prod.mk.inj e).2.symm
    · rw [if_neg c] at e
      rw [← e]
      exact .inr hz
  · rcases List.mem_append.mp h with m | m
    · exact .inr m
    · exact .inl (Prod.mk.inj (List.mem_singleton.mp m)).2
theorem getT_pos {q : Str × P} {r : List (Str × P)} {y : Str} (e : q.1 = y) : getT (q :: r) y = some q.2 := by
  unfold getT
  rw [List.find?_cons, decide_eq_true e]
  rfl
theorem getT_neg {q : Str × P} {r : List (Str × P)} {y : Str} (e : ¬ q.1 = y) : getT (q :: r) y = getT r y := by
  unfold getT
  rw [List.find?_cons, decide_eq_false e]
theorem getT_map (x y : Str) (p : P) : ∀ th : List (Str × P), getT (th.map fun q => if q.1 = x then (q.1, p) else q) y = if y = x then (if (th.any fun q => decide (q.1 = x)) = true then some p else none) else getT th y
  | [] => by
    by_cases e : y = x
    · rw [if_pos e]; rfl
    · rw [if_neg e]; rfl
  | q :: r => by
    have ih := getT_map x y p r
    rw [List.map_cons, List.any_cons]
    by_cases c : q.1 = x
    · rw [if_pos c, decide_eq_true c, Bool.true_or, if_pos rfl]
      by_cases e : y = x
      · rw [if_pos e, getT_pos (show (q.1, p).1 = y from c.trans e.symm)]
      · rw [if_neg e, getT_neg (show ¬ (q.1, p).1 = y from fun z => e (z.symm.trans c)), getT_neg (show ¬ q.1 = y from fun z => e (z.symm.trans c)), ih, if_neg e]
    · rw [if_neg c, decide_eq_false c, Bool.false_or]
      by_cases d : q.1 = y
      · have e : ¬ y = x := fun z => c (d.trans z)
        rw [if_neg e, getT_pos d, getT_pos d]
      · rw [getT_neg d, getT_neg d]
        exact ih
theorem getT_append (x y : Str) (p : P) : ∀ th : List (Str × P), getT (th ++ [(x, p)]) y = match getT th y with | some q => some q | none => if y = x then some p else none
  | [] => by
    show getT [(x, p)] y = if y = x then some p else none
    by_cases e : y = x
    · rw [if_pos e, getT_pos (show (x, p).1 = y from e.symm)]
    · rw [if_neg e, getT_neg (show ¬ (x, p).1 = y from fun z => e z.symm)]
      rfl
  | q :: r => by
    rw [List.cons_append]
    by_cases d : q.1 = y
    · rw [getT_pos d, getT_pos d]
    · rw [getT_neg d, getT_neg d]
      exact getT_append x y p r
theorem getT_none {x : Str} : ∀ {th : List (Str × P)}, ¬ (th.any fun q => decide (q.1 = x)) = true → getT th x = none
  | [], _ => rfl
  | q :: r, h => by
    rw [List.any_cons] at h
    have c : ¬ q.1 = x := fun e => h (by rw [decide_eq_true e]; rfl)
    rw [getT_neg c]
    exact getT_none fun e => h (by rw [e, Bool.or_true])
theorem getT_put (th : List (Str × P)) (x y : Str) (p : P) : getT (putT th x p) y = if y = x then some p else getT th y := by
  unfold putT
  by_cases c : (th.any fun q => decide (q.1 = x)) = true
  · rw [if_pos c, getT_map]
    by_cases e : y = x
    · rw [if_pos e, if_pos e, if_pos c]
    · rw [if_neg e, if_neg e]
  · rw [if_neg c, getT_append]
    by_cases e : y = x
    · subst e
      rw [getT_none c, if_pos rfl]
    · rw [if_neg e, if_neg e]
      cases getT th y <;> rfl
theorem mergeT_get (y : Str) : ∀ (r th : List (Str × P)), (getT th y ≠ none ∨ y ∈ r.map (·.1)) → getT (mergeT th r) y ≠ none
  | [], th, h => h.elim id fun m => nomatch m
  | q :: r, th, h => by
    refine mergeT_get y r (putT th q.1 q.2) ?_
    rw [getT_put]
    by_cases e : y = q.1
    · rw [if_pos e]
      exact .inl fun z => nomatch z
    · rw [if_neg e]
      refine h.imp id fun m => ?_
      rcases List.mem_cons.mp m with z | m
      · exact absurd z e
      · exact m
theorem mergeT_mem {y : Str} {p : P} : ∀ {r th : List (Str × P)}, (y, p) ∈ mergeT th r → (∃ z, (z, p) ∈ r) ∨ (y, p) ∈ th
  | [], _, h => .inr h
  | q :: r, th, h => by
    rcases mergeT_mem (r := r) h with ⟨z, m⟩ | m
    · exact .inl ⟨z, List.mem_cons_of_mem _ m⟩
    · rcases putT_mem m with e | m
      · exact .inl ⟨q.1, by rw [e]; exact List.mem_cons_self⟩
      · exact .inr m
section
variable {K : PySem.W.Frag} {H : Hp}
theorem TdAll.any {kvs : List (Key × V)} {th : List (Str × P)} (h : TdAll K H kvs th) (x : Str) : (kvs.any fun kv => decide (kv.1 = (Sum.inr x : Key))) = th.any fun q => decide (q.1 = x) := by
  induction h with
  | nil => rfl
  | @cons y v p kvs th a _ ih =>
    rw [List.any_cons, List.any_cons, ih]
    congr 1
    rw [Bool.eq_iff_iff, decide_eq_true_iff, decide_eq_true_iff]
    exact ⟨fun e => Sum.inr.inj e, fun e => congrArg Sum.inr e⟩
theorem TdAll.append {k1 k2 : List (Key × V)} {t1 t2 : List (Str × P)} (h : TdAll K H k1 t1) (g : TdAll K H k2 t2) : TdAll K H (k1 ++ k2) (t1 ++ t2) := by
  induction h with
  | nil => exact g
  | cons a _ ih => exact .cons a ih
theorem TdAll.putF {kvs : List (Key × V)} {th : List (Str × P)} (h : TdAll K H kvs th) {x : Str} {v : V} {p : P} (hv : Dp K H v p.data) : TdAll K H (putK kvs (.inr x) v) (putT th x p) := by
  unfold putK putT
  rw [h.any x]
  by_cases c : (th.any fun q => decide (q.1 = x)) = true
  · rw [if_pos c, if_pos c]
    clear c
    induction h with
    | nil => exact .nil
    | @cons y u r kvs th a _ ih =>
      rw [List.map_cons, List.map_cons]
      by_cases e : y = x
      · rw [if_pos (show (Sum.inr y : Key) = .inr x from congrArg Sum.inr e), if_pos e]
        exact .cons hv ih
      · rw [if_neg (show ¬ (Sum.inr y : Key) = .inr x from fun z => e (Sum.inr.inj z)), if_neg e]
        exact .cons a ih
  · rw [if_neg c, if_neg c]
    exact h.append (.cons hv .nil)
theorem TdAll.merge : ∀ {more : List (Key × V)} {rs : List (Str × P)} {kvs : List (Key × V)} {th : List (Str × P)}, TdAll K H more rs → TdAll K H kvs th → TdAll K H (mergeK kvs more) (mergeT th rs) := by
  intro more rs kvs th h
  induction h generalizing kvs th with
  | nil => exact fun g => g
  | cons a _ ih => exact fun g => ih (g.putF a)
/-- names and things, one by one -/
theorem TdAll.zip : ∀ {ns : List Str} {vs : List V} {ps : List P}, DpAll K H vs (P.datas ps) → ns.length = ps.length → ∃ kvs : List (Key × V), kvs.map (fun q => kV q.1) = ns.map V.str ∧ kvs.map (·.2) = vs ∧ TdAll K H kvs (ns.zip ps)
  | [], vs, [], h, _ => by
    cases h
    exact ⟨[], rfl, rfl, .nil⟩
  | n :: ns, vs, p :: ps, h, e => by
    have h' : DpAll K H vs (p.data :: P.datas ps) := h
    cases h' with
    | cons a b =>
      obtain ⟨kvs, h1, h2, h3⟩ := TdAll.zip (ns := ns) (ps := ps) b (Nat.succ.inj e)
      exact ⟨(.inr n, _) :: kvs, by rw [List.map_cons, List.map_cons, h1]; rfl, by rw [List.map_cons, h2], .cons a h3⟩
  | [], _, _ :: _, _, e => nomatch e
  | _ :: _, _, [], _, e => nomatch e
end
end Lz

set_option Elab.async false
set_option linter.all false
set_option maxRecDepth 100000
set_option maxHeartbeats 8000000
namespace Lz
open PySem PySem.Spec PyProof.Rows L2
def spGiven (K : PySem.W.Frag) : Sp := fun vs H Q _ => ∃ (v : V) (t h : Lz.P) (ts : List Lz.P), vs = [v] ∧ Dp K H v t.data ∧ Gv t h ts ∧ ts.length ≤ 30000 ∧ ∀ (pa : Addr) (hv : V) (l : Addr) (xs : List V) (H' : Hp), Kp [] H H' → H' pa = some (.tup [hv, .ref l]) → Dp K H' hv h.data → H' l = some (.lst xs) → DpAll K H' xs (Lz.P.datas ts) → Q (.ref pa) H'
section
variable {P : Program} {w : World} {K : PySem.W.Frag} {mg : Str → Option Value} {base : Heap} {f : Addr} {fd : FuncData}
abbrev sGiven : Stmt := topS 17
theorem scGiven : FnScope ["part", "things"] ["part"] (defScope sGiven) := ⟨rfl, rfl, rfl, by decide +kernel, rfl, by decide +kernel, by decide +kernel⟩
theorem ok_given (F : Fun K "given" "given" sGiven f fd) : FnOk P w K mg base CX0 1 f fd ["part"] (spGiven K) := by
  refine F.ok scGiven (fun vs H Q E h => ?_) (fun cdv A outer s H vs Q E hr h => ?_)
  · obtain ⟨v, t, h, ts, rfl, _⟩ := h
    rfl
  obtain ⟨v, t, h, ts, rfl, hd, hg, hn, q⟩ := h
  refine ⟨_, (pss_cons (ps_set (i := 1) scGiven.nd rfl (.inl rfl) (pe_lst pa_nil))
    (pss_cons (ps_while PassesOwn.never (pt_cmpR op_eq (pe_ix (ix_tupK (K := K) rfl) (pv 0) pe_int (fun _ _ => rfl)) pe_str (nomark _)) (pss_cons (ps_expr (pe_bmK (K := K) rfl PySem.F.plainAttrs_list PySem.F.slot_list_append PySem.F.type_list_append mt_append (pv 1) (pa_cons (pe_ix (ix_tupK (K := K) rfl) (pv 0) pe_int (fun _ _ => rfl)) pa_nil)))
    (pss_one (ps_set (i := 0) scGiven.nd rfl (.inl rfl) (pe_ix (ix_tupK (K := K) rfl) (pv 0) pe_int (fun _ _ => rfl))))))
    (pss_one (ps_ret (pe_tup (pa_cons (pv 0) (pa_cons (revLK (K := K) rfl (pv 1)) pa_nil))))))), ?_⟩
  refine ⟨Nat.zero_le _, fun l hl => ?_⟩
  have k1 : Kp [] H (upd H l (.lst [])) := Kp.new hl
  have hl1 : (upd H l (.lst [])) l = some (.lst []) := upd_same
  have hd1 := Dp.keep k1 _ _ (data_fz _) hd
  generalize upd H l (.lst []) = H1 at k1 hl1 hd1 ⊢
  refine ⟨fun m σ H' => ∃ (v' : V) (t' : Lz.P) (ts' us : List Lz.P) (ys : List V), σ = [some v', some (.ref l)] ∧ Kp [] H H' ∧ Dp K H' v' t'.data ∧ Gv t' h ts' ∧ ts' ++ us = ts ∧ H' l = some (.lst ys) ∧ DpAll K H' ys.reverse (Lz.P.datas us) ∧ m = ts'.length,
    ⟨_, v, t, ts, [], [], rfl, k1, hd1, hg, List.append_nil _, hl1, .nil, rfl⟩, ?_⟩
  rintro m σ H2 ⟨v', t', ts', us, ys, rfl, k2, hd2, hg2, heq, hl2, hys, rfl⟩
  obtain ⟨a, xs, rfl, ht, hxs⟩ := hd_at hd2
  refine ⟨_, rfl, a, _, _, _, rfl, rfl, ht, at_of (j := 0) rfl rfl, rfl, _, rfl, ?_⟩
  have hyl : ys.length = us.length := by
    have := hys.length
    rw [List.length_reverse, datas_len] at this
    exact this
  have htl : ts'.length + us.length = ts.length := by rw [← heq, List.length_append]
  cases hg2 with
  | stop e =>
    refine ite2 (fun c => absurd (V.str.inj (of_decide_eq_true c)) e) (fun _ => ?_)
    rw [List.nil_append] at heq
    subst heq
    refine ⟨_, rfl, _, rfl, l, ys, rfl, SqL.of hl2, fun lr hlr => ?_⟩
    have kx : Kp [] H2 (upd H2 lr (.lst ys.reverse)) := Kp.new hlr
    have h3 : (upd H2 lr (.lst ys.reverse)) lr = some (.lst ys.reverse) := upd_same
    have hd3 := Dp.keep kx _ _ (data_fz _) hd2
    have hy3 := Dp.keepAll kx _ _ (datas_fz _) hys
    have k3 := k2.trans kx
    generalize upd H2 lr (.lst ys.reverse) = H3 at h3 hd3 hy3 k3 ⊢
    refine ⟨(by show 2 ≤ sizeLine; decide), fun T hT => ?_⟩
    have kx : Kp [] H3 (upd H3 T (.tup [.ref a, .ref lr])) := Kp.new hT
    exact q T (.ref a) lr ys.reverse _ (k3.trans kx) upd_same (Dp.keep kx _ _ (data_fz _) hd3) (kx.lst h3 (fun m => nomatch m)) (Dp.keepAll kx _ _ (datas_fz _) hy3)
  | @give x b _ ts0 g0 =>
    refine ite2 (fun _ => ?_) (fun c => absurd (decide_eq_true rfl) c)
    obtain ⟨p, va, vb, e, hpt, hda, hdb⟩ := give_at hd2
    obtain rfl := V.ref.inj e
    refine ⟨fun σ' H' => ∃ m', m' < (ts0 ++ [b]).length ∧ ∃ (v' : V) (t' : Lz.P) (ts' us : List Lz.P) (ys : List V), σ' = [some v', some (.ref l)] ∧ Kp [] H H' ∧ Dp K H' v' t'.data ∧ Gv t' h ts' ∧ ts' ++ us = ts ∧ H' l = some (.lst ys) ∧ DpAll K H' ys.reverse (Lz.P.datas us) ∧ m' = ts'.length, fun σ' H' h => h, ?_⟩
    refine ⟨_, rfl, .inl ⟨rfl, _, SqL.of hl2⟩, _, rfl, a, _, _, _, rfl, rfl, hpt, at_of (j := 2) rfl rfl, l, _, _, rfl, rfl, hl2, small60000 (by omega), ?_⟩
    have kp : Kp [l] H2 (upd H2 l (.lst (ys ++ [vb]))) := Kp.put hl2 List.mem_cons_self
    refine ⟨_, rfl, a, _, _, _, rfl, rfl, kp.sqT hpt, at_of (j := 1) rfl rfl, ?_⟩
    refine ⟨ts0.length, by rw [List.length_append]; exact Nat.lt_succ_self _, va, x, ts0, b :: us, ys ++ [vb], rfl, k2.mut hl, Dp.keep kp _ _ (data_fz _) hda, g0, by rw [← heq, List.append_assoc]; rfl, upd_same, ?_, rfl⟩
    rw [List.reverse_append]
    exact .cons (Dp.keep kp _ _ (data_fz _) hdb) (Dp.keepAll kp _ _ (datas_fz _) hys)
end
end Lz

set_option Elab.async false
set_option linter.all false
set_option maxRecDepth 100000
set_option maxHeartbeats 8000000
namespace Lz
open PySem PySem.Spec PyProof.Rows L2
theorem fD_at {K : PySem.W.Frag} {H : Hp} {v : V} {g : Fn} (h : Dp K H v (fD g)) : ∃ t r u, v = .ref t ∧ SqT K H t [.str g.1, .ref r, u] ∧ SqT K H r (g.2.1.map V.str) ∧ Dp K H u g.2.2.data := by
  obtain ⟨g', t, r, u, e, rfl, h1, h2, h3⟩ := fn_atU (xs := [v]) (gs := [g]) (i := 0) (.cons h .nil) rfl
  obtain rfl : g = g' := Option.some.inj e
  exact ⟨t, r, u, rfl, h1, h2, h3⟩
/-- a word and a part -/
def Ww (K : PySem.W.Frag) (H : Hp) (v : V) (x : Str) (t : Lz.P) : Prop := Dp K H v (.tuple [.str x, t.data])
theorem Ww.new {K : PySem.W.Frag} {H : Hp} {T : Addr} {x : Str} {t : Lz.P} {v : V} (h : H T = none) (d : Dp K H v t.data) : Ww K (upd H T (.tup [.str x, v])) (.ref T) x t := Dp.newT h (.cons (.str _) (.cons d .nil)) (datas_fz [t])
def spDueCall (K : PySem.W.Frag) : Sp := fun vs H Q _ => ∃ (vp v : V) (fs : List Fn) (d t : Lz.P) (ts : List Lz.P) (i : Nat) (g : Fn) (F : List Str), vs = [vp, v] ∧ Dp K H vp (progD fs d) ∧ PrOk fs d ∧ Dp K H v t.data ∧ Gv t (.fn g.1) ts ∧ (fnsOf fs d)[i]? = some g ∧ g.2.1.length = ts.length ∧ ts.length ≤ 4 ∧ g.2.2.okS F ∧ g.2.2.mw ≤ 60000 ∧
  ∀ (v' : V) (H' : Hp), Kp [] H H' → Ww K H' v' "call" (Lz.P.put (mergeT [] (g.2.1.zip ts)) g.2.2) → Q v' H'
section
variable {P : Program} {w : World} {K : PySem.W.Frag} {mg : Str → Option Value} {base : Heap} {f : Addr} {fd : FuncData}
abbrev sDueOfCall : Stmt := topS 19
theorem scDueOfCall : FnScope ["program", "part", "head", "things", "_", "names", "body"] ["program", "part"] (defScope sDueOfCall) := ⟨rfl, rfl, rfl, by decide +kernel, rfl, by decide +kernel, by decide +kernel⟩
theorem ok_dueCall (F : Fun K "due_of_call" "due_of_call" sDueOfCall f fd) (mdict : mg "dict" = none) (mzip : mg "zip" = none) (CGiven : C8.Cal P w K mg base 1 "given" (spGiven K) []) (CFunctionOf : C8.Cal P w K mg base 3 "function_of" (spFunOf K) []) (CPutIn : C8.Cal P w K mg base 3 "put_in" (spPutIn K) []) : FnOk P w K mg base CX0 4 f fd ["program", "part"] (spDueCall K) := by
  refine F.ok scDueOfCall (fun vs H Q E h => ?_) (fun cdv A outer s H vs Q E hr h => ?_)
  · obtain ⟨vp, v, fs, d, t, ts, i, g, G, rfl, _⟩ := h
    rfl
  obtain ⟨vp, v, fs, d, t, ts, i, g, G, rfl, hp, hok, hd, hg, hi, hl, h4, hgo, hgm, q⟩ := h
  refine ⟨_, (pss_cons (ps_asg (C8.pe_c CGiven hr (by first | decide | omega) (by rfl) (pa_cons (pv 1) pa_nil)) (pg_tupK (K := K) (n := 2) rfl rfl (pgs_cons (pg_name (i := 2) scDueOfCall.nd rfl (.inl rfl)) (pgs_cons (pg_name (i := 3) scDueOfCall.nd rfl (.inl rfl)) pgs_nil))))
    (pss_cons (ps_asg (C8.pe_c CFunctionOf hr (by first | decide | omega) (by rfl) (pa_cons (pv 0) (pa_cons (pe_ix (ix_tupK (K := K) rfl) (pv 2) pe_int (fun _ _ => rfl)) pa_nil))) (pg_tupK (K := K) (n := 3) rfl rfl (pgs_cons (pg_name (i := 4) scDueOfCall.nd rfl (.inl rfl)) (pgs_cons (pg_name (i := 5) scDueOfCall.nd rfl (.inl rfl)) (pgs_cons (pg_name (i := 6) scDueOfCall.nd rfl (.inl rfl)) pgs_nil)))))
    (pss_one (ps_ret (pe_tup (pa_cons pe_str (pa_cons (C8.pe_c CPutIn hr (by first | decide | omega) (by rfl) (pa_cons (pv 6) (pa_cons (StZ.pe_dictZip (K := K) rfl (by rfl) mdict (by rfl) mzip (pa_cons (pv 5) (pa_cons (pv 3) pa_nil)) rfl) pa_nil))) pa_nil))))))), ?_⟩
  refine ⟨_, rfl, v, t, _, ts, rfl, hd, hg, by omega, fun pa hv l xs H1 k1 hpa hhv hl1 hxs => ?_⟩
  obtain ⟨ah, e, hth⟩ := str_at hhv rfl
  subst e
  refine ⟨pa, _, rfl, SqT.of hpa, rfl, _, _, rfl, _, _, rfl, rfl, ?_⟩
  refine ⟨_, rfl, _, rfl, ah, _, _, _, rfl, rfl, hth, at_of (j := 1) rfl rfl, vp, fs, d, i, g, rfl, Dp.keep k1 _ _ (progU_fz _ _) hp, hok, hi, fun t2 H2 k2 ht2 => ?_⟩
  obtain ⟨tt, r, u, rfl, htt, hrr, hu⟩ := fD_at ht2
  refine ⟨tt, _, rfl, htt, rfl, _, _, rfl, _, _, rfl, _, _, rfl, rfl, ?_⟩
  have hl2 := k2.lst hl1 (fun m => nomatch m)
  have hx2 := Dp.keepAll k2 _ _ (datas_fz _) hxs
  obtain ⟨kvs, e1, e2, hT⟩ := TdAll.zip hx2 hl
  have hkl : kvs.length ≤ 10 * 100 := by
    have := congrArg List.length e2
    rw [List.length_map] at this
    rw [this, hx2.length, datas_len]
    omega
  refine ⟨_, rfl, _, rfl, _, rfl, r, l, kvs, rfl, by rw [e1]; exact hrr, by rw [e2]; exact SqL.of hl2, hkl, fun pd hpd => ?_⟩
  have kx : Kp [] H2 (upd H2 pd (.dK (mergeK [] kvs))) := Kp.new hpd
  have hT3 : TD K (upd H2 pd (.dK (mergeK [] kvs))) pd (mergeK [] kvs) (mergeT [] (g.2.1.zip ts)) := ⟨upd_same, (hT.merge .nil).keepT (.of kx)⟩
  have hu3 := Dp.keep kx _ _ (data_fz _) hu
  have k3 := (k1.trans k2).trans kx
  generalize upd H2 pd (.dK (mergeK [] kvs)) = H3 at hT3 hu3 k3 ⊢
  refine ⟨u, pd, g.2.2, G, _, _, rfl, hu3, hgo, hgm, hT3, fun v' H4 k4 hd4 => ?_⟩
  refine ⟨(by show 2 ≤ sizeLine; decide), fun T hT' => ?_⟩
  exact q (.ref T) _ ((k3.trans k4).trans (Kp.new hT')) (Ww.new hT' hd4)
end
end Lz

set_option Elab.async false
set_option linter.all false
set_option maxRecDepth 100000
set_option maxHeartbeats 4000000
/-! What is due of a closed part: plain Lean. -/
namespace Lz
open PySem PySem.Spec PyProof.Rows L2
theorem Spine.one {t h : P} {n : Nat} (s : Spine t n h) : ∀ {m : Nat} {h' : P}, Spine t m h' → m = n ∧ h' = h := by
  induction s with
  | stop e =>
    intro m h' s'
    cases s' with
    | stop _ => exact ⟨rfl, rfl⟩
    | give _ => exact absurd rfl e
  | give _ ih =>
    intro m h' s'
    cases s' with
    | stop e => exact absurd rfl e
    | give q =>
      obtain ⟨e1, e2⟩ := ih q
      exact ⟨by rw [e1], e2⟩
/-- it is a worth -/
noncomputable def wb (fs : List Fn) (t : P) : Bool := @decide (∃ n h, Spine t n h ∧ worthB fs n h = true) (Classical.propDecidable _)
theorem wb_eq {fs : List Fn} {t h : P} {n : Nat} (s : Spine t n h) : wb fs t = worthB fs n h := by
  unfold wb
  rw [Bool.eq_iff_iff, @decide_eq_true_iff _ (Classical.propDecidable _)]
  refine ⟨fun ⟨m, h', s', e⟩ => ?_, fun e => ⟨n, h, s, e⟩⟩
  obtain ⟨rfl, rfl⟩ := s.one s'
  exact e
inductive Out where
  | w (t : P)
  | f (x : Str)
  | s (x : Str) (t : P)
  | inn (k : Nat)
def Out.data : Out → PyData
  | .w t => .tuple [.str "worth", t.data]
  | .f x => .tuple [.str "fault", .str x]
  | .s x t => .tuple [.str x, t.data]
  | .inn k => .tuple [.str "within", .int (k : Nat)]
def fours : List Str := ["plus", "less", "times", "below"]
def comeOf (k : Str) (i j : Int) : Int := if k = "plus" then i + j else if k = "less" then i - j else if k = "times" then i * j else if i < j then 1 else 0
inductive Due (fs : List Fn) (d : P) : P → Out → Prop
  | shut {a : P} : Due fs d (.op "shut" [a]) (.s "open" a)
  | lett {nm : List Str} {as : List P} {b : P} : Due fs d (.lt nm as b) (.s "let" (P.put (mergeT [] (nm.zip (as.map fun a => P.lt nm as a))) b))
  | call {t : P} {ts : List P} {g : Fn} {i : Nat} : (t = .fn g.1 ∨ ∃ a b, t = .op "give" [a, b] ∧ wb fs a = true ∧ a.hd ≠ "number" ∧ a.hd ≠ "pair") → Gv t (.fn g.1) ts → (fnsOf fs d)[i]? = some g → g.2.1.length = ts.length → Due fs d t (.s "call" (P.put (mergeT [] (g.2.1.zip ts)) g.2.2))
  | giveIn {a b : P} : wb fs a = false → Due fs d (.op "give" [a, b]) (.inn 1)
  | giveF {a b : P} : wb fs a = true → (a.hd = "number" ∨ a.hd = "pair") → Due fs d (.op "give" [a, b]) (.f "function")
  | two1 {k : Str} {a b : P} : k ∈ fours → wb fs a = false → Due fs d (.op k [a, b]) (.inn 1)
  | twoF1 {k : Str} {a b : P} : k ∈ fours → wb fs a = true → a.hd ≠ "number" → Due fs d (.op k [a, b]) (.f "number")
  | two2 {k : Str} {i : Int} {b : P} : k ∈ fours → wb fs b = false → Due fs d (.op k [.num i, b]) (.inn 2)
  | twoF2 {k : Str} {i : Int} {b : P} : k ∈ fours → wb fs b = true → b.hd ≠ "number" → Due fs d (.op k [.num i, b]) (.f "number")
  | twoG {k : Str} {i j : Int} : k ∈ fours → ¬ (comeOf k i j).natAbs < 10 ^ 60 → Due fs d (.op k [.num i, .num j]) (.f "great")
  | two {k : Str} {i j : Int} : k ∈ fours → (comeOf k i j).natAbs < 10 ^ 60 → Due fs d (.op k [.num i, .num j]) (.s "number" (.num (comeOf k i j)))
  | when1 {a b c : P} : wb fs a = false → Due fs d (.op "when" [a, b, c]) (.inn 1)
  | whenF {a b c : P} : wb fs a = true → a.hd ≠ "number" → Due fs d (.op "when" [a, b, c]) (.f "number")
  | when {i : Int} {b c : P} : Due fs d (.op "when" [.num i, b, c]) (.s "turn" (if i ≠ 0 then b else c))
  | side1 {k : Str} {a : P} : (k = "left" ∨ k = "right") → wb fs a = false → Due fs d (.op k [a]) (.inn 1)
  | sideF {k : Str} {a : P} : (k = "left" ∨ k = "right") → wb fs a = true → a.hd ≠ "pair" → Due fs d (.op k [a]) (.f "pair")
  | side {k : Str} {a b : P} : (k = "left" ∨ k = "right") → Due fs d (.op k [.op "pair" [a, b]]) (.s "side" (if k = "left" then a else b))
theorem fours_not {k : Str} (h : k ∈ fours) : k ≠ "shut" ∧ k ≠ "give" ∧ k ≠ "when" ∧ k ≠ "left" ∧ k ≠ "right" := by
  have h0 : fours.all (fun k => decide (k ≠ "shut") && decide (k ≠ "give") && decide (k ≠ "when") && decide (k ≠ "left") && decide (k ≠ "right")) = true := by decide +kernel
  have q := List.all_eq_true.mp h0 _ h
  simp only [Bool.and_eq_true, decide_eq_true_eq] at q
  exact ⟨q.1.1.1.1, q.1.1.1.2, q.1.1.2, q.1.2, q.2⟩
theorem due_shut {fs : List Fn} {d t : P} {o : Out} {F : List Str} (h : t.okS F) (e : t.hd = "shut") (q : Due fs d t o) : ∃ a, t = .op "shut" [a] ∧ o = .s "open" a := by
  cases q with
  | shut => exact ⟨_, rfl, rfl⟩
  | lett => exact absurd (show ("let" : Str) = "shut" from e) (by decide +kernel)
  | call c _ _ _ =>
    rcases c with rfl | ⟨a, b, rfl, _⟩
    · exact absurd (show ("fun" : Str) = "shut" from e) (by decide +kernel)
    · exact absurd (show ("give" : Str) = "shut" from e) (by decide +kernel)
  | giveIn _ => exact absurd (show ("give" : Str) = "shut" from e) (by decide +kernel)
  | giveF _ _ => exact absurd (show ("give" : Str) = "shut" from e) (by decide +kernel)
  | two1 k _ => exact absurd e (fours_not k).1
  | twoF1 k _ _ => exact absurd e (fours_not k).1
  | two2 k _ => exact absurd e (fours_not k).1
  | twoF2 k _ _ => exact absurd e (fours_not k).1
  | twoG k _ => exact absurd e (fours_not k).1
  | two k _ => exact absurd e (fours_not k).1
  | when1 _ => exact absurd (show ("when" : Str) = "shut" from e) (by decide +kernel)
  | whenF _ _ => exact absurd (show ("when" : Str) = "shut" from e) (by decide +kernel)
  | when => exact absurd (show ("when" : Str) = "shut" from e) (by decide +kernel)
  | side1 k _ => exact k.elim (fun k => absurd (k.symm.trans e) (by decide +kernel)) (fun k => absurd (k.symm.trans e) (by decide +kernel))
  | sideF k _ _ => exact k.elim (fun k => absurd (k.symm.trans e) (by decide +kernel)) (fun k => absurd (k.symm.trans e) (by decide +kernel))
  | side k => exact k.elim (fun k => absurd (k.symm.trans e) (by decide +kernel)) (fun k => absurd (k.symm.trans e) (by decide +kernel))
/-- a program whose parts are closed by its functions -/
structure PrS (fs : List Fn) (d : P) : Prop where
  ok : PrOk fs d
  bo : ∀ g, g ∈ fnsOf fs d → g.2.2.okS (fs.map (·.1))
theorem worth_num {fs : List Fn} (i : Int) : wb fs (.num i) = true := by
  rw [wb_eq (Spine.stop (by show ("number" : Str) ≠ "give"; decide +kernel) : Spine (.num i) 0 (.num i))]
  rfl
theorem worth_pair {fs : List Fn} (a b : P) : wb fs (.op "pair" [a, b]) = true := by
  rw [wb_eq (Spine.stop (by show ("pair" : Str) ≠ "give"; decide +kernel) : Spine (.op "pair" [a, b]) 0 (.op "pair" [a, b]))]
  rfl
end Lz

set_option Elab.async false
set_option linter.all false
set_option maxRecDepth 100000
set_option maxHeartbeats 4000000
/-! Each kind's own due: plain Lean. -/
namespace Lz
open PySem PySem.Spec PyProof.Rows L2
theorem hd_op {F : List Str} {t : P} {k : Str} (h : t.okS F) (e : t.hd = k) (h1 : k ≠ "number") (h2 : k ≠ "name") (h3 : k ≠ "fun") (h4 : k ≠ "let") : ∃ as, t = .op k as ∧ (k, as.length) ∈ kinds2 ∧ P.okSs F as := by
  cases t with
  | num i => exact absurd e.symm h1
  | nam i => exact absurd e.symm h2
  | fn i => exact absurd e.symm h3
  | lt nm as b => exact absurd e.symm h4
  | op k' as =>
    obtain rfl : k' = k := e
    exact ⟨as, rfl, (show (k', as.length) ∈ kinds2 ∧ P.okSs F as from h).1, (show (k', as.length) ∈ kinds2 ∧ P.okSs F as from h).2⟩
theorem when_three {n : Nat} (h : (("when" : Str), n) ∈ kinds2) : n = 3 := by
  have h0 : kinds2.all (fun p => !decide (p.1 = "when") || decide (p.2 = 3)) = true := by decide +kernel
  simpa using List.all_eq_true.mp h0 _ h
theorem side_one {k : Str} {n : Nat} (hk : k = "left" ∨ k = "right") (h : (k, n) ∈ kinds2) : n = 1 := by
  have h0 : kinds2.all (fun p => !(decide (p.1 = "left") || decide (p.1 = "right")) || decide (p.2 = 1)) = true := by decide +kernel
  have q := List.all_eq_true.mp h0 _ h
  rcases hk with rfl | rfl <;> simpa using q
theorem pair_two {n : Nat} (h : (("pair" : Str), n) ∈ kinds2) : n = 2 := by
  have h0 : kinds2.all (fun p => !decide (p.1 = "pair") || decide (p.2 = 2)) = true := by decide +kernel
  simpa using List.all_eq_true.mp h0 _ h
theorem fours_two {k : Str} {n : Nat} (hk : k ∈ fours) (h : (k, n) ∈ kinds2) : n = 2 := by
  have h0 : kinds2.all (fun p => !decide (p.1 ∈ fours) || decide (p.2 = 2)) = true := by decide +kernel
  have q := List.all_eq_true.mp h0 _ h
  simpa [hk] using q
theorem fours_op {k : Str} (h : k ∈ fours) : k ≠ "number" ∧ k ≠ "name" ∧ k ≠ "fun" ∧ k ≠ "let" := by
  have h0 : fours.all (fun k => decide (k ≠ "number") && decide (k ≠ "name") && decide (k ≠ "fun") && decide (k ≠ "let")) = true := by decide +kernel
  have q := List.all_eq_true.mp h0 _ h
  simp only [Bool.and_eq_true, decide_eq_true_eq] at q
  exact ⟨q.1.1.1, q.1.1.2, q.1.2, q.2⟩
theorem one_of {α : Type} {as : List α} (h : as.length = 1) : ∃ a, as = [a] := by
  match as, h with
  | [a], _ => exact ⟨a, rfl⟩
theorem two_of {α : Type} {as : List α} (h : as.length = 2) : ∃ a b, as = [a, b] := by
  match as, h with
  | [a, b], _ => exact ⟨a, b, rfl⟩
theorem three_of {α : Type} {as : List α} (h : as.length = 3) : ∃ a b c, as = [a, b, c] := by
  match as, h with
  | [a, b, c], _ => exact ⟨a, b, c, rfl⟩
section
variable {fs : List Fn} {d : P} {o : Out}
theorem due_let {nm : List Str} {as : List P} {b : P} (q : Due fs d (.lt nm as b) o) : o = .s "let" (P.put (mergeT [] (nm.zip (as.map fun a => P.lt nm as a))) b) := by
  cases q with
  | lett => rfl
  | call c _ _ _ =>
    rcases c with e | ⟨_, _, e, _⟩
    · cases e
    · cases e
theorem num_of {F : List Str} {t : P} (h : t.okS F) (e : t.hd = "number") : ∃ i, t = .num i := by
  cases t with
  | num i => exact ⟨i, rfl⟩
  | nam i => exact absurd (show ("name" : Str) = "number" from e) (by decide +kernel)
  | fn i => exact absurd (show ("fun" : Str) = "number" from e) (by decide +kernel)
  | lt nm as b => exact absurd (show ("let" : Str) = "number" from e) (by decide +kernel)
  | op k as => exact absurd (show k = "number" from e) (kind2_plain (show (k, as.length) ∈ kinds2 ∧ _ from h).1).2.1
theorem due_when {a b c : P} (q : Due fs d (.op "when" [a, b, c]) o) : (wb fs a = false ∧ o = .inn 1) ∨ (wb fs a = true ∧ a.hd ≠ "number" ∧ o = .f "number") ∨ ∃ i, a = .num i ∧ o = .s "turn" (if i ≠ 0 then b else c) := by
  cases q with
  | call c _ _ _ =>
    rcases c with e | ⟨_, _, e, _⟩
    · cases e
    · cases e
  | when1 h => exact .inl ⟨h, rfl⟩
  | whenF h e => exact .inr (.inl ⟨h, e, rfl⟩)
  | when => exact .inr (.inr ⟨_, rfl, rfl⟩)
theorem due_side {k : Str} {a : P} (hk : k = "left" ∨ k = "right") (q : Due fs d (.op k [a]) o) : (wb fs a = false ∧ o = .inn 1) ∨ (wb fs a = true ∧ a.hd ≠ "pair" ∧ o = .f "pair") ∨ ∃ x y, a = .op "pair" [x, y] ∧ o = .s "side" (if k = "left" then x else y) := by
  cases q with
  | shut => exact hk.elim (fun h => absurd h (by decide +kernel)) (fun h => absurd h (by decide +kernel))
  | call c _ _ _ =>
    rcases c with e | ⟨_, _, e, _⟩
    · cases e
    · cases e
  | side1 _ h => exact .inl ⟨h, rfl⟩
  | sideF _ h e => exact .inr (.inl ⟨h, e, rfl⟩)
  | side _ => exact .inr (.inr ⟨_, _, rfl, rfl⟩)
theorem due_give {a b : P} (q : Due fs d (.op "give" [a, b]) o) : (wb fs a = false ∧ o = .inn 1) ∨ (wb fs a = true ∧ (a.hd = "number" ∨ a.hd = "pair") ∧ o = .f "function") ∨ (wb fs a = true ∧ a.hd ≠ "number" ∧ a.hd ≠ "pair" ∧ ∃ (ts : List P) (g : Fn) (i : Nat), Gv (.op "give" [a, b]) (.fn g.1) ts ∧ (fnsOf fs d)[i]? = some g ∧ g.2.1.length = ts.length ∧ o = .s "call" (P.put (mergeT [] (g.2.1.zip ts)) g.2.2)) := by
  cases q with
  | call c h1 h2 h3 =>
    rcases c with e | ⟨_, _, e, h4, h5, h6⟩
    · cases e
    · cases e
      exact .inr (.inr ⟨h4, h5, h6, _, _, _, h1, h2, h3, rfl⟩)
  | giveIn h => exact .inl ⟨h, rfl⟩
  | giveF h e => exact .inr (.inl ⟨h, e, rfl⟩)
  | two1 k _ => exact absurd rfl (fours_not k).2.1
  | twoF1 k _ _ => exact absurd rfl (fours_not k).2.1
  | two2 k _ => exact absurd rfl (fours_not k).2.1
  | twoF2 k _ _ => exact absurd rfl (fours_not k).2.1
  | twoG k _ => exact absurd rfl (fours_not k).2.1
  | two k _ => exact absurd rfl (fours_not k).2.1
theorem due_two {k : Str} {a b : P} (hk : k ∈ fours) (q : Due fs d (.op k [a, b]) o) : (wb fs a = false ∧ o = .inn 1) ∨ (wb fs a = true ∧ a.hd ≠ "number" ∧ o = .f "number") ∨ ∃ i, a = .num i ∧ ((wb fs b = false ∧ o = .inn 2) ∨ (wb fs b = true ∧ b.hd ≠ "number" ∧ o = .f "number") ∨ ∃ j, b = .num j ∧ ((¬ (comeOf k i j).natAbs < 10 ^ 60 ∧ o = .f "great") ∨ ((comeOf k i j).natAbs < 10 ^ 60 ∧ o = .s "number" (.num (comeOf k i j))))) := by
  cases q with
  | call c _ _ _ =>
    rcases c with e | ⟨_, _, e, _⟩
    · cases e
    · cases e
      exact absurd rfl (fours_not hk).2.1
  | giveIn _ => exact absurd rfl (fours_not hk).2.1
  | giveF _ _ => exact absurd rfl (fours_not hk).2.1
  | two1 _ h => exact .inl ⟨h, rfl⟩
  | twoF1 _ h e => exact .inr (.inl ⟨h, e, rfl⟩)
  | two2 _ h => exact .inr (.inr ⟨_, rfl, .inl ⟨h, rfl⟩⟩)
  | twoF2 _ h e => exact .inr (.inr ⟨_, rfl, .inr (.inl ⟨h, e, rfl⟩)⟩)
  | twoG _ h => exact .inr (.inr ⟨_, rfl, .inr (.inr ⟨_, rfl, .inl ⟨h, rfl⟩⟩)⟩)
  | two _ h => exact .inr (.inr ⟨_, rfl, .inr (.inr ⟨_, rfl, .inr ⟨h, rfl⟩⟩)⟩)
theorem due_fn {x : Str} (q : Due fs d (.fn x) o) : ∃ (ts : List P) (g : Fn) (i : Nat), g.1 = x ∧ Gv (.fn x) (.fn g.1) ts ∧ (fnsOf fs d)[i]? = some g ∧ g.2.1.length = ts.length ∧ o = .s "call" (P.put (mergeT [] (g.2.1.zip ts)) g.2.2) := by
  cases q with
  | call c h1 h2 h3 =>
    rcases c with e | ⟨_, _, e, _⟩
    · cases e
      exact ⟨_, _, _, rfl, h1, h2, h3, rfl⟩
    · cases e
end
end Lz

set_option Elab.async false
set_option linter.all false
set_option maxRecDepth 100000
set_option maxHeartbeats 8000000
namespace Lz
open PySem PySem.Spec PyProof.Rows L2
theorem DpAll.unconsE {K : PySem.W.Frag} {H : Hp} {vs : List V} {d : PyData} {ds : List PyData} (h : DpAll K H vs (d :: ds)) : ∃ v r, vs = v :: r ∧ Dp K H v d ∧ DpAll K H r ds := by
  cases h with
  | cons a b => exact ⟨_, _, rfl, a, b⟩
/-- one of the rules: of parts whose kind is among ks -/
def spRule (K : PySem.W.Frag) (ks : List Str) : Sp := fun vs H Q _ => ∃ (vp v : V) (fs : List Fn) (d t : Lz.P) (o : Out), vs = [vp, v] ∧ Dp K H vp (progD fs d) ∧ PrS fs d ∧ Dp K H v t.data ∧ t.okS (fs.map (·.1)) ∧ t.hd ∈ ks ∧ t.mw ≤ 60000 ∧ (∀ nm as b, t = .lt nm as b → b.mw ≤ 60000) ∧ (∀ k i j, t = .op k [.num i, .num j] → i.natAbs < 10 ^ 60 ∧ j.natAbs < 10 ^ 60) ∧ Due fs d t o ∧ ∀ (v' : V) (H' : Hp), Kp [] H H' → Dp K H' v' o.data → Q v' H'
def spIsW (K : PySem.W.Frag) : Sp := fun vs H Q _ => ∃ (vp v : V) (fs : List Fn) (d t : Lz.P), vs = [vp, v] ∧ Dp K H vp (progD fs d) ∧ PrS fs d ∧ Dp K H v t.data ∧ t.okS (fs.map (·.1)) ∧ ∀ H', Kp [] H H' → Q (.bl (wb fs t)) H'
theorem isW_of {K : PySem.W.Frag} {vs : List V} {H : Hp} {Q : VK} {E : XK} (h : spIsW K vs H Q E) : spWorth K vs H Q E := by
  obtain ⟨vp, v, fs, d, t, rfl, hp, hok, hd, ht, q⟩ := h
  obtain ⟨n, h, s, ho, hh⟩ := spine_ex t.many t (Nat.le_refl _) ht
  exact ⟨vp, v, fs, d, t, h, n, rfl, hp, hok.ok, hd, ht, s, ho, hh, fun H' k => by
    have := q H' k
    rw [wb_eq s] at this
    exact this⟩
section
variable {P : Program} {w : World} {K : PySem.W.Frag} {mg : Str → Option Value} {base : Heap} {f : Addr} {fd : FuncData}
abbrev sDueOfShut : Stmt := topS 22
theorem scDueOfShut : FnScope ["program", "part"] ["program", "part"] (defScope sDueOfShut) := ⟨rfl, rfl, rfl, by decide +kernel, rfl, by decide +kernel, by decide +kernel⟩
theorem ok_dueShut (F : Fun K "due_of_shut" "due_of_shut" sDueOfShut f fd) : FnOk P w K mg base CX0 1 f fd ["program", "part"] (spRule K ["shut"]) := by
  refine F.ok scDueOfShut (fun vs H Q E h => ?_) (fun cdv A outer s H vs Q E hr h => ?_)
  · obtain ⟨vp, v, fs, d, t, o, rfl, _⟩ := h
    rfl
  obtain ⟨vp, v, fs, d, t, o, rfl, hp, hok, hd, hto, hk, hm, hm2, hm3, hdue, q⟩ := h
  refine ⟨_, (pss_one (ps_ret (pe_tup (pa_cons pe_str (pa_cons (pe_ix (ix_tupK (K := K) rfl) (pv 1) pe_int (fun _ _ => rfl)) pa_nil))))), ?_⟩
  have hk' : t.hd = "shut" := List.mem_singleton.mp hk
  obtain ⟨a, rfl, rfl⟩ := due_shut hto hk' hdue
  obtain ⟨p, xs, rfl, ht, hxs⟩ := op_atU hd
  obtain ⟨x, r, rfl, hx, hr⟩ := DpAll.uncons hxs
  cases hr
  refine ⟨_, rfl, p, _, _, _, rfl, rfl, ht, at_of (j := 1) rfl rfl, (by show 2 ≤ sizeLine; decide), fun T hT => ?_⟩
  exact q (.ref T) _ (Kp.new hT) (Ww.new hT hx)
abbrev sDueOfWhen : Stmt := topS 24
theorem scDueOfWhen : FnScope ["program", "part"] ["program", "part"] (defScope sDueOfWhen) := ⟨rfl, rfl, rfl, by decide +kernel, rfl, by decide +kernel, by decide +kernel⟩
theorem ok_dueWhen (F : Fun K "due_of_when" "due_of_when" sDueOfWhen f fd) (CIsWorth : C8.Cal P w K mg base 5 "is_worth" (spIsW K) []) : FnOk P w K mg base CX0 6 f fd ["program", "part"] (spRule K ["when"]) := by
  refine F.ok scDueOfWhen (fun vs H Q E h => ?_) (fun cdv A outer s H vs Q E hr h => ?_)
  · obtain ⟨vp, v, fs, d, t, o, rfl, _⟩ := h
    rfl
  obtain ⟨vp, v, fs, d, t, o, rfl, hp, hok, hd, hto, hk, hm, hm2, hm3, hdue, q⟩ := h
  refine ⟨_, (pss_cons (ps_if (pt_not (pt_truthK (K := K) rfl (C8.pe_c CIsWorth hr (by first | decide | omega) (by rfl) (pa_cons (pv 0) (pa_cons (pe_ix (ix_tupK (K := K) rfl) (pv 1) pe_int (fun _ _ => rfl)) pa_nil))) (fun _ => rfl))) (pss_one (ps_ret (pe_tup (pa_cons pe_str (pa_cons pe_int pa_nil))))) pss_nil)
    (pss_cons (ps_if (pt_cmpR op_ne (pe_ix (ix_tupK (K := K) rfl) (pe_ix (ix_tupK (K := K) rfl) (pv 1) pe_int (fun _ _ => rfl)) pe_int (fun _ _ => rfl)) pe_str (nomark _)) (pss_one (ps_ret (pe_tup (pa_cons pe_str (pa_cons pe_str pa_nil))))) pss_nil)
    (pss_one (ps_ret (pe_tup (pa_cons pe_str (pa_cons (pe_ifExp (pt_cmpR op_ne (pe_ix (ix_tupK (K := K) rfl) (pe_ix (ix_tupK (K := K) rfl) (pv 1) pe_int (fun _ _ => rfl)) pe_int (fun _ _ => rfl)) pe_int (nomark _)) (pe_ix (ix_tupK (K := K) rfl) (pv 1) pe_int (fun _ _ => rfl)) (pe_ix (ix_tupK (K := K) rfl) (pv 1) pe_int (fun _ _ => rfl))) pa_nil))))))), ?_⟩
  obtain ⟨as, rfl, hkk, hos⟩ := hd_op hto (List.mem_singleton.mp hk) (by decide +kernel) (by decide +kernel) (by decide +kernel) (by decide +kernel)
  obtain ⟨a, b, c, rfl⟩ := three_of (when_three hkk)
  obtain ⟨p, xs, rfl, ht, hxs⟩ := op_atU hd
  obtain ⟨xa, r1, rfl, hxa, hr1⟩ := DpAll.uncons hxs
  obtain ⟨xb, r2, rfl, hxb, hr2⟩ := DpAll.uncons hr1
  obtain ⟨xc, r3, rfl, hxc, hr3⟩ := DpAll.uncons hr2
  cases hr3
  refine ⟨_, rfl, _, rfl, p, _, _, _, rfl, rfl, ht, at_of (j := 1) rfl rfl, vp, xa, fs, d, a, rfl, hp, hok, hxa, hos.1, fun H1 k1 => ?_⟩
  refine ⟨_, rfl, ?_⟩
  obtain ⟨pa, ya, rfl, hta, hya⟩ := hd_at hxa
  rcases due_when hdue with ⟨hw, rfl⟩ | ⟨hw, hn, rfl⟩ | ⟨i, rfl, rfl⟩
  · rw [hw]
    refine ite2 (fun _ => ?_) (fun c => absurd rfl c)
    exact ⟨(by show 2 ≤ sizeLine; decide), fun T hT => q (.ref T) _ (k1.trans (Kp.new hT)) (Dp.newT hT (.cons (.str _) (.cons (.int _) .nil)) rfl)⟩
  · rw [hw]
    refine ite2 (fun c => absurd c (by simp)) (fun _ => ?_)
    refine ⟨_, rfl, p, _, _, _, rfl, rfl, k1.sqT ht, at_of (j := 1) rfl rfl, pa, _, _, _, rfl, rfl, k1.sqT hta, at_of (j := 0) rfl rfl, rfl, _, rfl, ?_⟩
    refine ite2 (fun _ => ?_) (fun c => absurd (by simpa using hn) c)
    exact ⟨(by show 2 ≤ sizeLine; decide), fun T hT => q (.ref T) _ (k1.trans (Kp.new hT)) (Dp.newT hT (.cons (.str _) (.cons (.str _) .nil)) rfl)⟩
  · rw [worth_num]
    refine ite2 (fun c => absurd c (by simp)) (fun _ => ?_)
    obtain ⟨vi, y2, rfl, hvi, hy2⟩ := DpAll.unconsE (show DpAll K H ya [.int i] from hya)
    cases hvi
    cases hy2
    refine ⟨_, rfl, p, _, _, _, rfl, rfl, k1.sqT ht, at_of (j := 1) rfl rfl, pa, _, _, _, rfl, rfl, k1.sqT hta, at_of (j := 0) rfl rfl, rfl, _, rfl, ?_⟩
    refine ite2 (fun c => absurd c (by simp [Lz.P.hd])) (fun _ => ?_)
    refine ⟨_, rfl, p, _, _, _, rfl, rfl, k1.sqT ht, at_of (j := 1) rfl rfl, pa, _, _, _, rfl, rfl, k1.sqT hta, at_of (j := 1) rfl rfl, rfl, _, rfl, ?_⟩
    by_cases h0 : i = 0
    · refine ite2 (fun c => absurd c (by simp [h0])) (fun _ => ?_)
      refine ⟨_, rfl, p, _, _, _, rfl, rfl, k1.sqT ht, at_of (j := 3) rfl rfl, (by show 2 ≤ sizeLine; decide), fun T hT => ?_⟩
      rw [if_neg (by simpa using h0)] at q
      exact q (.ref T) _ (k1.trans (Kp.new hT)) (Ww.new hT (Dp.keep k1 _ _ (data_fz _) hxc))
    · refine ite2 (fun _ => ?_) (fun c => absurd (by simpa using h0) c)
      refine ⟨_, rfl, p, _, _, _, rfl, rfl, k1.sqT ht, at_of (j := 2) rfl rfl, (by show 2 ≤ sizeLine; decide), fun T hT => ?_⟩
      rw [if_pos h0] at q
      exact q (.ref T) _ (k1.trans (Kp.new hT)) (Ww.new hT (Dp.keep k1 _ _ (data_fz _) hxb))
abbrev sDueOfSide : Stmt := topS 25
theorem scDueOfSide : FnScope ["program", "part"] ["program", "part"] (defScope sDueOfSide) := ⟨rfl, rfl, rfl, by decide +kernel, rfl, by decide +kernel, by decide +kernel⟩
theorem ok_dueSide (F : Fun K "due_of_side" "due_of_side" sDueOfSide f fd) (CIsWorth : C8.Cal P w K mg base 5 "is_worth" (spIsW K) []) : FnOk P w K mg base CX0 6 f fd ["program", "part"] (spRule K ["left", "right"]) := by
  refine F.ok scDueOfSide (fun vs H Q E h => ?_) (fun cdv A outer s H vs Q E hr h => ?_)
  · obtain ⟨vp, v, fs, d, t, o, rfl, _⟩ := h
    rfl
  obtain ⟨vp, v, fs, d, t, o, rfl, hp, hok, hd, hto, hk, hm, hm2, hm3, hdue, q⟩ := h
  refine ⟨_, (pss_cons (ps_if (pt_not (pt_truthK (K := K) rfl (C8.pe_c CIsWorth hr (by first | decide | omega) (by rfl) (pa_cons (pv 0) (pa_cons (pe_ix (ix_tupK (K := K) rfl) (pv 1) pe_int (fun _ _ => rfl)) pa_nil))) (fun _ => rfl))) (pss_one (ps_ret (pe_tup (pa_cons pe_str (pa_cons pe_int pa_nil))))) pss_nil)
    (pss_cons (ps_if (pt_cmpR op_ne (pe_ix (ix_tupK (K := K) rfl) (pe_ix (ix_tupK (K := K) rfl) (pv 1) pe_int (fun _ _ => rfl)) pe_int (fun _ _ => rfl)) pe_str (nomark _)) (pss_one (ps_ret (pe_tup (pa_cons pe_str (pa_cons pe_str pa_nil))))) pss_nil)
    (pss_one (ps_ret (pe_tup (pa_cons pe_str (pa_cons (pe_ifExp (pt_cmpR op_eq (pe_ix (ix_tupK (K := K) rfl) (pv 1) pe_int (fun _ _ => rfl)) pe_str (nomark _)) (pe_ix (ix_tupK (K := K) rfl) (pe_ix (ix_tupK (K := K) rfl) (pv 1) pe_int (fun _ _ => rfl)) pe_int (fun _ _ => rfl)) (pe_ix (ix_tupK (K := K) rfl) (pe_ix (ix_tupK (K := K) rfl) (pv 1) pe_int (fun _ _ => rfl)) pe_int (fun _ _ => rfl))) pa_nil))))))), ?_⟩
  have hk' : t.hd = "left" ∨ t.hd = "right" := by simpa using hk
  obtain ⟨k, ek⟩ : ∃ k, t.hd = k := ⟨_, rfl⟩
  rw [ek] at hk'
  obtain ⟨as, rfl, hkk, hos⟩ := hd_op hto ek (by rcases hk' with e | e <;> rw [e] <;> decide +kernel) (by rcases hk' with e | e <;> rw [e] <;> decide +kernel) (by rcases hk' with e | e <;> rw [e] <;> decide +kernel) (by rcases hk' with e | e <;> rw [e] <;> decide +kernel)
  obtain ⟨a, rfl⟩ := one_of (side_one hk' hkk)
  obtain ⟨p, xs, rfl, ht, hxs⟩ := op_atU hd
  obtain ⟨xa, r1, rfl, hxa, hr1⟩ := DpAll.uncons hxs
  cases hr1
  refine ⟨_, rfl, _, rfl, p, _, _, _, rfl, rfl, ht, at_of (j := 1) rfl rfl, vp, xa, fs, d, a, rfl, hp, hok, hxa, hos.1, fun H1 k1 => ?_⟩
  refine ⟨_, rfl, ?_⟩
  obtain ⟨pa, ya, rfl, hta, hya⟩ := hd_at hxa
  rcases due_side hk' hdue with ⟨hw, rfl⟩ | ⟨hw, hn, rfl⟩ | ⟨x, y, rfl, rfl⟩
  · rw [hw]
    refine ite2 (fun _ => ?_) (fun c => absurd rfl c)
    exact ⟨(by show 2 ≤ sizeLine; decide), fun T hT => q (.ref T) _ (k1.trans (Kp.new hT)) (Dp.newT hT (.cons (.str _) (.cons (.int _) .nil)) rfl)⟩
  · rw [hw]
    refine ite2 (fun c => absurd c (by simp)) (fun _ => ?_)
    refine ⟨_, rfl, p, _, _, _, rfl, rfl, k1.sqT ht, at_of (j := 1) rfl rfl, pa, _, _, _, rfl, rfl, k1.sqT hta, at_of (j := 0) rfl rfl, rfl, _, rfl, ?_⟩
    refine ite2 (fun _ => ?_) (fun c => absurd (by simpa using hn) c)
    exact ⟨(by show 2 ≤ sizeLine; decide), fun T hT => q (.ref T) _ (k1.trans (Kp.new hT)) (Dp.newT hT (.cons (.str _) (.cons (.str _) .nil)) rfl)⟩
  · rw [worth_pair]
    refine ite2 (fun c => absurd c (by simp)) (fun _ => ?_)
    obtain ⟨vx, y1, rfl, hvx, hy1⟩ := DpAll.uncons (show DpAll K H ya (Lz.P.datas [x, y]) from hya)
    obtain ⟨vy, y2, rfl, hvy, hy2⟩ := DpAll.uncons hy1
    cases hy2
    refine ⟨_, rfl, p, _, _, _, rfl, rfl, k1.sqT ht, at_of (j := 1) rfl rfl, pa, _, _, _, rfl, rfl, k1.sqT hta, at_of (j := 0) rfl rfl, rfl, _, rfl, ?_⟩
    refine ite2 (fun c => absurd c (by simp [Lz.P.hd])) (fun _ => ?_)
    refine ⟨_, rfl, p, _, _, _, rfl, rfl, k1.sqT ht, at_of (j := 0) rfl rfl, rfl, _, rfl, ?_⟩
    by_cases h0 : k = "left"
    · refine ite2 (fun _ => ?_) (fun c => absurd (decide_eq_true (congrArg V.str h0)) c)
      refine ⟨_, rfl, p, _, _, _, rfl, rfl, k1.sqT ht, at_of (j := 1) rfl rfl, pa, _, _, _, rfl, rfl, k1.sqT hta, at_of (j := 1) rfl rfl, (by show 2 ≤ sizeLine; decide), fun T hT => ?_⟩
      rw [if_pos h0] at q
      exact q (.ref T) _ (k1.trans (Kp.new hT)) (Ww.new hT (Dp.keep k1 _ _ (data_fz _) hvx))
    · refine ite2 (fun c => absurd (V.str.inj (of_decide_eq_true c)) h0) (fun _ => ?_)
      refine ⟨_, rfl, p, _, _, _, rfl, rfl, k1.sqT ht, at_of (j := 1) rfl rfl, pa, _, _, _, rfl, rfl, k1.sqT hta, at_of (j := 2) rfl rfl, (by show 2 ≤ sizeLine; decide), fun T hT => ?_⟩
      rw [if_neg h0] at q
      exact q (.ref T) _ (k1.trans (Kp.new hT)) (Ww.new hT (Dp.keep k1 _ _ (data_fz _) hvy))
end
end Lz

set_option Elab.async false
set_option linter.all false
set_option maxRecDepth 100000
set_option maxHeartbeats 8000000
namespace Lz
open PySem PySem.Spec PyProof.Rows L2
theorem mergeT_snoc : ∀ (l th : List (Str × Lz.P)) (q : Str × Lz.P), mergeT th (l ++ [q]) = putT (mergeT th l) q.1 q.2
  | [], _, _ => rfl
  | a :: l, th, q => mergeT_snoc l (putT th a.1 a.2) q
section
variable {P : Program} {w : World} {K : PySem.W.Frag} {mg : Str → Option Value} {base : Heap} {f : Addr} {fd : FuncData}
abbrev sDueOfGive : Stmt := topS 20
theorem scDueOfGive : FnScope ["program", "part"] ["program", "part"] (defScope sDueOfGive) := ⟨rfl, rfl, rfl, by decide +kernel, rfl, by decide +kernel, by decide +kernel⟩
theorem ok_dueGive (F : Fun K "due_of_give" "due_of_give" sDueOfGive f fd) (CIsWorth : C8.Cal P w K mg base 5 "is_worth" (spIsW K) []) (CDueOfCall : C8.Cal P w K mg base 4 "due_of_call" (spDueCall K) []) : FnOk P w K mg base CX0 6 f fd ["program", "part"] (spRule K ["give"]) := by
  refine F.ok scDueOfGive (fun vs H Q E h => ?_) (fun cdv A outer s H vs Q E hr h => ?_)
  · obtain ⟨vp, v, fs, d, t, o, rfl, _⟩ := h
    rfl
  obtain ⟨vp, v, fs, d, t, o, rfl, hp, hok, hd, hto, hk, hm, hm2, hm3, hdue, q⟩ := h
  refine ⟨_, (pss_cons (ps_if (pt_not (pt_truthK (K := K) rfl (C8.pe_c CIsWorth hr (by first | decide | omega) (by rfl) (pa_cons (pv 0) (pa_cons (pe_ix (ix_tupK (K := K) rfl) (pv 1) pe_int (fun _ _ => rfl)) pa_nil))) (fun _ => rfl))) (pss_one (ps_ret (pe_tup (pa_cons pe_str (pa_cons pe_int pa_nil))))) pss_nil)
    (pss_cons (ps_if (pt_cmpR (op_inK (K := K) rfl) (pe_ix (ix_tupK (K := K) rfl) (pe_ix (ix_tupK (K := K) rfl) (pv 1) pe_int (fun _ _ => rfl)) pe_int (fun _ _ => rfl)) (pe_tup (pa_cons pe_str (pa_cons pe_str pa_nil))) rfl) (pss_one (ps_ret (pe_tup (pa_cons pe_str (pa_cons pe_str pa_nil))))) pss_nil)
    (pss_one (ps_ret (C8.pe_c CDueOfCall hr (by first | decide | omega) (by rfl) (pa_cons (pv 0) (pa_cons (pv 1) pa_nil))))))), ?_⟩
  obtain ⟨as, rfl, hkk, hos⟩ := hd_op hto (List.mem_singleton.mp hk) (by decide +kernel) (by decide +kernel) (by decide +kernel) (by decide +kernel)
  obtain ⟨a, b, rfl⟩ := two_of (give_two hkk)
  obtain ⟨p, va, vb, rfl, ht, hxa, hxb⟩ := give_at hd
  refine ⟨_, rfl, _, rfl, p, _, _, _, rfl, rfl, ht, at_of (j := 1) rfl rfl, vp, va, fs, d, a, rfl, hp, hok, hxa, hos.1, fun H1 k1 => ?_⟩
  refine ⟨_, rfl, ?_⟩
  obtain ⟨pa, ya, rfl, hta, hya⟩ := hd_at hxa
  rcases due_give hdue with ⟨hw, rfl⟩ | ⟨hw, hn, rfl⟩ | ⟨hw, hn1, hn2, ts, g, i, hgv, hgi, hgl, rfl⟩
  · rw [hw]
    refine ite2 (fun _ => ?_) (fun c => absurd rfl c)
    exact ⟨(by show 2 ≤ sizeLine; decide), fun T hT => q (.ref T) _ (k1.trans (Kp.new hT)) (Dp.newT hT (.cons (.str _) (.cons (.int _) .nil)) rfl)⟩
  · rw [hw]
    refine ite2 (fun c => absurd c (by simp)) (fun _ => ?_)
    refine ⟨_, rfl, p, _, _, _, rfl, rfl, k1.sqT ht, at_of (j := 1) rfl rfl, pa, _, _, _, rfl, rfl, k1.sqT hta, at_of (j := 0) rfl rfl, (by show 2 ≤ sizeLine; decide), fun T1 hT1 => ?_⟩
    refine ⟨T1, _, rfl, .inr (SqT.of upd_same), rfl, rfl, _, rfl, ?_⟩
    rw [in2U]
    refine ite2 (fun _ => ?_) (fun c => absurd (by rcases hn with e | e <;> simp [e]) c)
    have k2 := k1.trans (Kp.new (S := []) (o := .tup [.str "number", .str "pair"]) hT1)
    exact ⟨(by show 2 ≤ sizeLine; decide), fun T hT => q (.ref T) _ (k2.trans (Kp.new hT)) (Dp.newT hT (.cons (.str _) (.cons (.str _) .nil)) rfl)⟩
  · rw [hw]
    refine ite2 (fun c => absurd c (by simp)) (fun _ => ?_)
    refine ⟨_, rfl, p, _, _, _, rfl, rfl, k1.sqT ht, at_of (j := 1) rfl rfl, pa, _, _, _, rfl, rfl, k1.sqT hta, at_of (j := 0) rfl rfl, (by show 2 ≤ sizeLine; decide), fun T1 hT1 => ?_⟩
    refine ⟨T1, _, rfl, .inr (SqT.of upd_same), rfl, rfl, _, rfl, ?_⟩
    rw [in2U]
    refine ite2 (fun c => absurd c (by simp [hn1, hn2])) (fun _ => ?_)
    have k2 := k1.trans (Kp.new (S := []) (o := .tup [.str "number", .str "pair"]) hT1)
    generalize upd H1 T1 (.tup [.str "number", .str "pair"]) = H2 at k2 ⊢
    have hgm := List.mem_of_getElem? hgi
    have hb := hok.ok.bd g hgm
    have hbm := hb.1.many
    have hmw := mw_many g.2.2
    exact ⟨_, rfl, _, rfl, vp, .ref p, fs, d, _, ts, i, g, _, rfl, Dp.keep k2 _ _ (progU_fz _ _) hp, hok.ok, Dp.keep k2 _ _ (data_fz _) hd, hgv, hgi, hgl, by omega, hok.bo g hgm, by omega, fun v' H3 k3 hw3 => q v' H3 (k2.trans k3) hw3⟩
abbrev sDueOfLet : Stmt := topS 21
theorem scDueOfLet : FnScope ["program", "part", "rows", "x", "inner"] ["program", "part"] (defScope sDueOfLet) := ⟨rfl, rfl, rfl, by decide +kernel, rfl, by decide +kernel, by decide +kernel⟩
theorem ok_dueLet (F : Fun K "due_of_let" "due_of_let" sDueOfLet f fd) (CPutIn : C8.Cal P w K mg base 3 "put_in" (spPutIn K) []) : FnOk P w K mg base CX0 4 f fd ["program", "part"] (spRule K ["let"]) := by
  refine F.ok scDueOfLet (fun vs H Q E h => ?_) (fun cdv A outer s H vs Q E hr h => ?_)
  · obtain ⟨vp, v, fs, d, t, o, rfl, _⟩ := h
    rfl
  obtain ⟨vp, v, fs, d, t, o, rfl, hp, hok, hd, hto, hk, hm, hm2, hm3, hdue, q⟩ := h
  refine ⟨_, (pss_cons (ps_set (i := 2) scDueOfLet.nd rfl (.inr rfl) (pe_ix (ix_tupK (K := K) rfl) (pv 1) pe_int (fun _ _ => rfl)))
    (pss_one (ps_ret (pe_tup (pa_cons pe_str (pa_cons (C8.pe_c CPutIn hr (by first | decide | omega) (by rfl) (pa_cons (pe_ix (ix_tupK (K := K) rfl) (pv 1) pe_int (fun _ _ => rfl)) (pa_cons (pe_dc (own := [("x", 3), ("inner", 4)]) rfl scDueOfLet.nd (pi_tupK (K := K) rfl (pv 2)) (blkOk_by (N := ["program", "part", "rows", "x", "inner"]) (sc := defScope sDueOfLet) (by decide +kernel)) (fun _ _ _ _ _ => (pg_tupK (K := K) (n := 2) rfl rfl (pgs_cons (pg_name (i := 3) scDueOfLet.nd rfl (.inl rfl)) (pgs_cons (pg_name (i := 4) scDueOfLet.nd rfl (.inl rfl)) pgs_nil)))) (fun _ _ _ _ _ => pts_nil) (fun _ _ _ _ _ => (pv 3)) (fun _ _ _ _ _ => (pe_tup (pa_cons pe_str (pa_cons (pv 2) (pa_cons (pv 4) pa_nil)))))) pa_nil))) pa_nil)))))), ?_⟩
  obtain ⟨nm, as, b, rfl⟩ := hd_let hto (List.mem_singleton.mp hk)
  obtain rfl := due_let hdue
  obtain ⟨a, r, rs, vb, rfl, ht, hr2, hrs, hb⟩ := let_atU hd
  have hto' := (show nm.length = as.length ∧ (∀ x, x ∈ nm → nmOk x) ∧ Lz.P.okSs (fs.map (·.1)) as ∧ b.okS (fs.map (·.1)) from hto)
  have hrl : rs.length = as.length := by rw [hrs.length, List.length_zipWith, datas_len]; have := hto'.1; omega
  have hal : as.length ≤ 59998 := by
    have h1 := win_len hm
    have h2 : (as ++ [b]).length ≤ 59999 := h1
    rw [List.length_append, List.length_singleton] at h2
    omega
  refine ⟨_, rfl, a, _, _, _, rfl, rfl, ht, at_of (j := 1) rfl rfl, ?_⟩
  refine ⟨_, rfl, a, _, _, _, rfl, rfl, ht, at_of (j := 2) rfl rfl, _, rfl, r, rfl, ⟨_, hr2⟩, fun D hD => ?_⟩
  refine dc_tup (K := K) (a := r) (xs := rs) (fun i H' => Kp [] H H' ∧ ∃ kvs, H' D = some (.dK kvs) ∧ kvs.length ≤ i ∧ TdAll K H' kvs (mergeT [] ((nm.zip (as.map fun a => Lz.P.lt nm as a)).take i)))
    ⟨Kp.new hD, [], upd_same, Nat.le_refl _, .nil⟩ (fun i H' _ ⟨k, _⟩ => k.sqT hr2) ?_ ?_
  · rintro i x H1 hi ⟨k1, kvs, hkv, hkl, hT⟩
    have hil := (List.getElem?_eq_some_iff.mp hi).1
    obtain ⟨tr, nx, u, e, rfl, htr, hnx, hae, hue⟩ := row_atU (Dp.keepAll k1 _ _ rows_fz hrs) hi
    refine ⟨tr, _, rfl, htr, rfl, _, _, rfl, _, _, rfl, rfl, ?_⟩
    refine ⟨rfl, ?_⟩
    refine ⟨_, rfl, _, rfl, _, rfl, (by show 3 ≤ sizeLine; decide), fun T hT' => ?_⟩
    have kx : Kp [] H1 (upd H1 T (.tup [.str "let", .ref r, u])) := Kp.new hT'
    have hkv2 : (upd H1 T (.tup [.str "let", .ref r, u])) D = some (.dK kvs) := kx D _ hkv fun _ _ e => nomatch e
    have er : fzAll [PyData.str "let", .tuple (List.zipWith rowD nm (Lz.P.datas as)), e.data] = true := by
      show (fzAll (List.zipWith rowD nm (Lz.P.datas as)) && (fz e.data && true)) = true
      rw [rows_fz, data_fz]
      rfl
    have hle : Dp K (upd H1 T (.tup [.str "let", .ref r, u])) (.ref T) (Lz.P.lt nm as e).data := Dp.newT hT' (.cons (.str _) (.cons (.tup (k1.sqT hr2) (Dp.keepAll k1 _ _ rows_fz hrs)) (.cons hue .nil))) er
    have k2 := k1.trans kx
    have hT2 := hT.keepT (Tk.of kx)
    generalize upd H1 T (.tup [.str "let", .ref r, u]) = H2 at hkv2 hle k2 hT2 ⊢
    have kt : Tk K H2 (upd H2 D (.dK (putK kvs (.inr nx) (.ref T)))) := Tk.put hkv2
    have hll := length_putK kvs (Sum.inr nx : Key) (.ref T)
    have ez : (nm.zip (as.map fun a => Lz.P.lt nm as a))[i]? = some (nx, Lz.P.lt nm as e) := by
      rw [List.getElem?_zip_eq_some]
      exact ⟨hnx, by rw [List.getElem?_map, hae]; rfl⟩
    refine ⟨kvs, .inr nx, rfl, hkv2, small60000 (by omega), k2.mut hD, _, upd_same, by omega, ?_⟩
    rw [List.take_add_one, ez]
    show TdAll K _ _ (mergeT [] (_ ++ [(nx, Lz.P.lt nm as e)]))
    rw [mergeT_snoc]
    exact (hT2.keepT kt).putF (Dp.keepT kt _ _ (data_fz _) hle)
  · rintro H1 ⟨k1, kvs, hkv, hkl, hT⟩
    rw [List.take_of_length_le (by rw [List.length_zip, List.length_map]; omega)] at hT
    have hbm := hm2 nm as b rfl
    refine ⟨vb, D, b, _, kvs, _, rfl, Dp.keep k1 _ _ (data_fz _) hb, hto'.2.2.2, hbm, ⟨hkv, hT⟩, fun v' H2 k2 hd2 => ?_⟩
    refine ⟨(by show 2 ≤ sizeLine; decide), fun T hT' => ?_⟩
    exact q (.ref T) _ ((k1.trans k2).trans (Kp.new hT')) (Ww.new hT' hd2)
end
end Lz

set_option Elab.async false
set_option linter.all false
set_option maxRecDepth 100000
set_option maxHeartbeats 8000000
namespace Lz
open PySem PySem.Spec PyProof.Rows L2
abbrev beyond : Int := 1000000000000000000000000000000000000000000000000000000000000
theorem beyond_iff (i : Int) : ((if i < 0 then -i else i) < beyond) ↔ i.natAbs < 10 ^ 60 := by
  have e : ((10 ^ 60 : Nat) : Int) = beyond := rfl
  split <;> omega
theorem log_60 {n : Nat} (h : n < 10 ^ 60) : n.log2 < 200 := by
  by_cases e : n = 0
  · subst e
    decide
  · rw [Nat.log2_lt e]
    exact Nat.lt_trans h (by decide +kernel)
theorem log_mul {i j : Int} (hi : i.natAbs < 10 ^ 60) (hj : j.natAbs < 10 ^ 60) : CMulW i j := by
  have h1 := log_60 hi
  have h2 := log_60 hj
  show i.natAbs.log2 + j.natAbs.log2 < 1000000
  omega
def spFitP (K : PySem.W.Frag) : Sp := fun vs H Q _ => ∃ (i : Int), vs = [.int i] ∧ Q (.bl (decide ((if i < 0 then -i else i) < beyond))) H
def spCome (K : PySem.W.Frag) : Sp := fun vs H Q _ => ∃ (k : Str) (i j : Int), vs = [.str k, .int i, .int j] ∧ i.natAbs < 10 ^ 60 ∧ j.natAbs < 10 ^ 60 ∧ ((comeOf k i j).natAbs < 10 ^ 60 → Q (.int (comeOf k i j)) H) ∧ (¬ (comeOf k i j).natAbs < 10 ^ 60 → Q .non H)
section
variable {P : Program} {w : World} {K : PySem.W.Frag} {mg : Str → Option Value} {base : Heap} {f : Addr} {fd : FuncData}
abbrev sFits : Stmt := topS 2
theorem scFits : FnScope ["n"] ["n"] (defScope sFits) := ⟨rfl, rfl, rfl, by decide +kernel, rfl, by decide +kernel, by decide +kernel⟩
theorem ok_fitP (F : Fun K "fits" "fits" sFits f fd) (mabs : mg "abs" = none) {tb : Tok} (mBEYOND : mg "BEYOND" = some (.int beyond tb)) : FnOk P w K mg base CX0 1 f fd ["n"] (spFitP K) := by
  refine F.ok scFits (fun vs H Q E h => ?_) (fun cdv A outer s H vs Q E hr h => ?_)
  · obtain ⟨x, rfl, _⟩ := h
    rfl
  obtain ⟨i, rfl, q⟩ := h
  refine ⟨_, (pss_one (ps_ret (pe_cmpR op_lt (pe_callB call_abs (by rfl) mabs (by decide +kernel) (pa_cons (pv 0) pa_nil)) (pe_glob (v := .int beyond) (by rfl) mBEYOND ⟨_, rfl⟩) (nomark _)))), ?_⟩
  refine ⟨_, rfl, i, rfl, _, _, rfl, rfl, ?_⟩
  exact q
abbrev sComeOf : Stmt := topS 3
theorem scComeOf : FnScope ["kind", "a", "b", "n"] ["kind", "a", "b"] (defScope sComeOf) := ⟨rfl, rfl, rfl, by decide +kernel, rfl, by decide +kernel, by decide +kernel⟩
theorem ok_come (F : Fun K "come_of" "come_of" sComeOf f fd) (CFits : C8.Cal P w K mg base 1 "fits" (spFitP K) []) : FnOk P w K mg base CX0 2 f fd ["kind", "a", "b"] (spCome K) := by
  refine F.ok scComeOf (fun vs H Q E h => ?_) (fun cdv A outer s H vs Q E hr h => ?_)
  · obtain ⟨k, i, j, rfl, _⟩ := h
    rfl
  obtain ⟨k, i, j, rfl, hi, hj, q1, q2⟩ := h
  refine ⟨_, (pss_cons (ps_if (pt_cmpR op_eq (pv 0) pe_str (nomark _)) (pss_one (ps_set (i := 3) scComeOf.nd rfl (.inl rfl) (pe_op op_add (pv 1) (pv 2)))) (pss_one (ps_if (pt_cmpR op_eq (pv 0) pe_str (nomark _)) (pss_one (ps_set (i := 3) scComeOf.nd rfl (.inl rfl) (pe_op op_sub (pv 1) (pv 2)))) (pss_one (ps_if (pt_cmpR op_eq (pv 0) pe_str (nomark _)) (pss_one (ps_set (i := 3) scComeOf.nd rfl (.inl rfl) (pe_op op_mulW (pv 1) (pv 2)))) (pss_one (ps_set (i := 3) scComeOf.nd rfl (.inl rfl) (pe_ifExp (pt_cmpR op_lt (pv 1) (pv 2) (nomark _)) pe_int pe_int))))))))
    (pss_one (ps_ret (pe_ifExp (pt_truthK (K := K) rfl (C8.pe_c CFits hr (by first | decide | omega) (by rfl) (pa_cons (pv 3) pa_nil)) (fun _ => rfl)) (pv 3) pe_non)))), ?_⟩
  refine ⟨_, rfl, rfl, _, rfl, ?_⟩
  by_cases h1 : k = "plus"
  · refine ite2 (fun _ => ?_) (fun c => absurd (decide_eq_true (congrArg V.str h1)) c)
    have e : comeOf k i j = i + j := if_pos h1
    rw [e] at q1 q2
    refine ⟨_, rfl, _, rfl, _, _, rfl, rfl, ?_⟩
    refine ⟨_, rfl, i + j, rfl, _, rfl, ?_⟩
    refine ite2 (fun c => ?_) (fun c => ?_)
    · exact ⟨_, rfl, q1 ((beyond_iff _).mp (of_decide_eq_true c))⟩
    · exact q2 fun z => c (decide_eq_true ((beyond_iff _).mpr z))
  refine ite2 (fun c => absurd (V.str.inj (of_decide_eq_true c)) h1) (fun _ => ?_)
  refine ⟨_, rfl, rfl, _, rfl, ?_⟩
  by_cases h2 : k = "less"
  · refine ite2 (fun _ => ?_) (fun c => absurd (decide_eq_true (congrArg V.str h2)) c)
    have e : comeOf k i j = i - j := (if_neg h1).trans (if_pos h2)
    rw [e] at q1 q2
    refine ⟨_, rfl, _, rfl, _, _, rfl, rfl, ?_⟩
    refine ⟨_, rfl, i - j, rfl, _, rfl, ?_⟩
    refine ite2 (fun c => ?_) (fun c => ?_)
    · exact ⟨_, rfl, q1 ((beyond_iff _).mp (of_decide_eq_true c))⟩
    · exact q2 fun z => c (decide_eq_true ((beyond_iff _).mpr z))
  refine ite2 (fun c => absurd (V.str.inj (of_decide_eq_true c)) h2) (fun _ => ?_)
  refine ⟨_, rfl, rfl, _, rfl, ?_⟩
  by_cases h3 : k = "times"
  · refine ite2 (fun _ => ?_) (fun c => absurd (decide_eq_true (congrArg V.str h3)) c)
    have e : comeOf k i j = i * j := (if_neg h1).trans ((if_neg h2).trans (if_pos h3))
    rw [e] at q1 q2
    refine ⟨_, rfl, _, rfl, _, _, rfl, rfl, log_mul hi hj, ?_⟩
    refine ⟨_, rfl, i * j, rfl, _, rfl, ?_⟩
    refine ite2 (fun c => ?_) (fun c => ?_)
    · exact ⟨_, rfl, q1 ((beyond_iff _).mp (of_decide_eq_true c))⟩
    · exact q2 fun z => c (decide_eq_true ((beyond_iff _).mpr z))
  refine ite2 (fun c => absurd (V.str.inj (of_decide_eq_true c)) h3) (fun _ => ?_)
  have e : comeOf k i j = if i < j then 1 else 0 := (if_neg h1).trans ((if_neg h2).trans (if_neg h3))
  rw [e] at q1 q2
  refine ⟨_, rfl, _, rfl, _, _, rfl, rfl, _, rfl, ?_⟩
  by_cases h4 : i < j
  · refine ite2 (fun _ => ?_) (fun c => absurd (decide_eq_true h4) c)
    rw [if_pos h4] at q1
    exact ⟨_, rfl, 1, rfl, _, rfl, ite2 (fun _ => ⟨_, rfl, q1 (by decide +kernel)⟩) (fun c => absurd (by decide +kernel) c)⟩
  · refine ite2 (fun c => absurd (of_decide_eq_true c) h4) (fun _ => ?_)
    rw [if_neg h4] at q1
    exact ⟨_, rfl, 0, rfl, _, rfl, ite2 (fun _ => ⟨_, rfl, q1 (by decide +kernel)⟩) (fun c => absurd (by decide +kernel) c)⟩
end
end Lz

set_option Elab.async false
set_option linter.all false
set_option maxRecDepth 100000
set_option maxHeartbeats 8000000
namespace Lz
open PySem PySem.Spec PyProof.Rows L2
section
variable {P : Program} {w : World} {K : PySem.W.Frag} {mg : Str → Option Value} {base : Heap} {f : Addr} {fd : FuncData}
abbrev sDueOfTwo : Stmt := topS 23
theorem scDueOfTwo : FnScope ["program", "part", "at", "n"] ["program", "part"] (defScope sDueOfTwo) := ⟨rfl, rfl, rfl, by decide +kernel, rfl, by decide +kernel, by decide +kernel⟩
theorem ok_dueTwo (F : Fun K "due_of_two" "due_of_two" sDueOfTwo f fd) (CIsWorth : C8.Cal P w K mg base 5 "is_worth" (spIsW K) []) (CComeOf : C8.Cal P w K mg base 2 "come_of" (spCome K) []) : FnOk P w K mg base CX0 6 f fd ["program", "part"] (spRule K fours) := by
  refine F.ok scDueOfTwo (fun vs H Q E h => ?_) (fun cdv A outer s H vs Q E hr h => ?_)
  · obtain ⟨vp, v, fs, d, t, o, rfl, _⟩ := h
    rfl
  obtain ⟨vp, v, fs, d, t, o, rfl, hp, hok, hd, hto, hk, hm, hm2, hm3, hdue, q⟩ := h
  refine ⟨_, (pss_cons (ps_for PassesOwn.never rfl (pi_tupK (K := K) rfl (pe_tup (pa_cons pe_int (pa_cons pe_int pa_nil)))) (pg_name (i := 2) scDueOfTwo.nd rfl (.inl rfl)) (pss_cons (ps_if (pt_not (pt_truthK (K := K) rfl (C8.pe_c CIsWorth hr (by first | decide | omega) (by rfl) (pa_cons (pv 0) (pa_cons (pe_ix (ix_tupK (K := K) rfl) (pv 1) (pv 2) (fun _ _ => rfl)) pa_nil))) (fun _ => rfl))) (pss_one (ps_ret (pe_tup (pa_cons pe_str (pa_cons (pv 2) pa_nil))))) pss_nil)
    (pss_one (ps_if (pt_cmpR op_ne (pe_ix (ix_tupK (K := K) rfl) (pe_ix (ix_tupK (K := K) rfl) (pv 1) (pv 2) (fun _ _ => rfl)) pe_int (fun _ _ => rfl)) pe_str (nomark _)) (pss_one (ps_ret (pe_tup (pa_cons pe_str (pa_cons pe_str pa_nil))))) pss_nil))))
    (pss_cons (ps_set (i := 3) scDueOfTwo.nd rfl (.inl rfl) (C8.pe_c CComeOf hr (by first | decide | omega) (by rfl) (pa_cons (pe_ix (ix_tupK (K := K) rfl) (pv 1) pe_int (fun _ _ => rfl)) (pa_cons (pe_ix (ix_tupK (K := K) rfl) (pe_ix (ix_tupK (K := K) rfl) (pv 1) pe_int (fun _ _ => rfl)) pe_int (fun _ _ => rfl)) (pa_cons (pe_ix (ix_tupK (K := K) rfl) (pe_ix (ix_tupK (K := K) rfl) (pv 1) pe_int (fun _ _ => rfl)) pe_int (fun _ _ => rfl)) pa_nil)))))
    (pss_one (ps_ret (pe_ifExp (pt_cmpR op_isN (pv 3) pe_non (nomark _)) (pe_tup (pa_cons pe_str (pa_cons pe_str pa_nil))) (pe_tup (pa_cons pe_str (pa_cons (pe_tup (pa_cons pe_str (pa_cons (pv 3) pa_nil))) pa_nil)))))))), ?_⟩
  obtain ⟨k, ek⟩ : ∃ k, t.hd = k := ⟨_, rfl⟩
  rw [ek] at hk
  have h4 := fours_op hk
  obtain ⟨as, rfl, hkk, hos⟩ := hd_op hto ek h4.1 h4.2.1 h4.2.2.1 h4.2.2.2
  obtain ⟨a, b, rfl⟩ := two_of (fours_two hk hkk)
  obtain ⟨p, xs, rfl, ht, hxs⟩ := op_atU hd
  obtain ⟨xa, r1, rfl, hxa, hr1⟩ := DpAll.uncons hxs
  obtain ⟨xb, r2, rfl, hxb, hr2⟩ := DpAll.uncons hr1
  cases hr2
  obtain ⟨pa, ya, rfl, hta, hya⟩ := hd_at hxa
  obtain ⟨pb, yb, rfl, htb, hyb⟩ := hd_at hxb
  refine ⟨(by show 2 ≤ sizeLine; decide), fun T0 hT0 => ?_⟩
  have k0 : Kp [] H (upd H T0 (.tup [.int 1, .int 2])) := Kp.new hT0
  have h0 : (upd H T0 (.tup [.int 1, .int 2])) T0 = some (.tup [.int 1, .int 2]) := upd_same
  generalize upd H T0 (.tup [.int 1, .int 2]) = H0 at k0 h0 ⊢
  have fin : ∀ {x : Str} {H1 : Hp} {T : Addr}, Kp [] H H1 → H1 T = none → Dp K (upd H1 T (.tup [.str "fault", .str x])) (.ref T) (Out.f x).data := fun _ hT => Dp.newT hT (.cons (.str _) (.cons (.str _) .nil)) rfl
  refine ⟨T0, rfl, ⟨_, SqT.of h0⟩, for_tup (K := K) (a := T0) (xs := [.int 1, .int 2]) (fun i σ H' => ∃ (v2 v3 : Option V), σ = [some vp, some (.ref p), v2, v3] ∧ Kp [] H H' ∧ Kp [] H0 H' ∧ (1 ≤ i → ∃ n, a = .num n) ∧ (2 ≤ i → ∃ n, b = .num n))
    ⟨none, none, rfl, k0, Kp.refl _ _, fun h => absurd h (by decide), fun h => absurd h (by decide)⟩ (fun i σ H' _ ⟨_, _, _, _, k, _⟩ => k.sqT (SqT.of h0)) ?_ ?_⟩
  · rintro i x σ H1 hi ⟨v2, v3, rfl, k1, k01, ha, hb⟩
    match i, hi with
    | 0, hi =>
      obtain rfl : V.int 1 = x := Option.some.inj hi
      refine ⟨_, rfl, _, rfl, _, rfl, p, _, _, _, rfl, rfl, k1.sqT ht, at_of (j := 1) rfl rfl, vp, .ref pa, fs, d, a, rfl, Dp.keep k1 _ _ (progU_fz _ _) hp, hok, Dp.keep k1 _ _ (data_fz _) hxa, hos.1, fun H2 k2 => ?_⟩
      refine ⟨_, rfl, ?_⟩
      have k2' := k1.trans k2
      rcases due_two hk hdue with ⟨hw, rfl⟩ | ⟨hw, hn, rfl⟩ | ⟨n, rfl, hrest⟩
      · rw [hw]
        refine ite2 (fun _ => ?_) (fun c => absurd rfl c)
        exact ⟨_, rfl, (by show 2 ≤ sizeLine; decide), fun T hT => q (.ref T) _ (k2'.trans (Kp.new hT)) (Dp.newT hT (.cons (.str _) (.cons (.int _) .nil)) rfl)⟩
      · rw [hw]
        refine ite2 (fun c => absurd c (by simp)) (fun _ => ?_)
        refine ⟨_, rfl, _, rfl, p, _, _, _, rfl, rfl, k2'.sqT ht, at_of (j := 1) rfl rfl, pa, _, _, _, rfl, rfl, k2'.sqT hta, at_of (j := 0) rfl rfl, rfl, _, rfl, ?_⟩
        refine ite2 (fun _ => ?_) (fun c => absurd (by simpa using hn) c)
        exact ⟨(by show 2 ≤ sizeLine; decide), fun T hT => q (.ref T) _ (k2'.trans (Kp.new hT)) (fin k2' hT)⟩
      · rw [worth_num]
        refine ite2 (fun c => absurd c (by simp)) (fun _ => ?_)
        refine ⟨_, rfl, _, rfl, p, _, _, _, rfl, rfl, k2'.sqT ht, at_of (j := 1) rfl rfl, pa, _, _, _, rfl, rfl, k2'.sqT hta, at_of (j := 0) rfl rfl, rfl, _, rfl, ?_⟩
        refine ite2 (fun c => absurd c (by simp [Lz.P.hd])) (fun _ => ?_)
        exact ⟨_, _, rfl, k2', k01.trans k2, fun _ => ⟨_, rfl⟩, fun h => absurd h (by decide)⟩
    | 1, hi =>
      obtain rfl : V.int 2 = x := Option.some.inj hi
      obtain ⟨n, rfl⟩ := ha (Nat.le_refl _)
      refine ⟨_, rfl, _, rfl, _, rfl, p, _, _, _, rfl, rfl, k1.sqT ht, at_of (j := 2) rfl rfl, vp, .ref pb, fs, d, b, rfl, Dp.keep k1 _ _ (progU_fz _ _) hp, hok, Dp.keep k1 _ _ (data_fz _) hxb, hos.2.1, fun H2 k2 => ?_⟩
      refine ⟨_, rfl, ?_⟩
      have k2' := k1.trans k2
      rcases due_two hk hdue with ⟨hw, _⟩ | ⟨_, hn, _⟩ | ⟨n', e, ⟨hw, rfl⟩ | ⟨hw, hn, rfl⟩ | ⟨j, rfl, hrest⟩⟩
      · rw [worth_num] at hw
        cases hw
      · exact absurd rfl hn
      · rw [hw]
        refine ite2 (fun _ => ?_) (fun c => absurd rfl c)
        exact ⟨_, rfl, (by show 2 ≤ sizeLine; decide), fun T hT => q (.ref T) _ (k2'.trans (Kp.new hT)) (Dp.newT hT (.cons (.str _) (.cons (.int _) .nil)) rfl)⟩
      · rw [hw]
        refine ite2 (fun c => absurd c (by simp)) (fun _ => ?_)
        refine ⟨_, rfl, _, rfl, p, _, _, _, rfl, rfl, k2'.sqT ht, at_of (j := 2) rfl rfl, pb, _, _, _, rfl, rfl, k2'.sqT htb, at_of (j := 0) rfl rfl, rfl, _, rfl, ?_⟩
        refine ite2 (fun _ => ?_) (fun c => absurd (by simpa using hn) c)
        exact ⟨(by show 2 ≤ sizeLine; decide), fun T hT => q (.ref T) _ (k2'.trans (Kp.new hT)) (fin k2' hT)⟩
      · rw [worth_num]
        refine ite2 (fun c => absurd c (by simp)) (fun _ => ?_)
        refine ⟨_, rfl, _, rfl, p, _, _, _, rfl, rfl, k2'.sqT ht, at_of (j := 2) rfl rfl, pb, _, _, _, rfl, rfl, k2'.sqT htb, at_of (j := 0) rfl rfl, rfl, _, rfl, ?_⟩
        refine ite2 (fun c => absurd c (by simp [Lz.P.hd])) (fun _ => ?_)
        exact ⟨_, _, rfl, k2', k01.trans k2, fun _ => ⟨_, rfl⟩, fun _ => ⟨_, rfl⟩⟩
    | i + 2, hi => exact nomatch hi
  · rintro σ H1 ⟨v2, v3, rfl, k1, k01, ha, hb⟩
    obtain ⟨n, rfl⟩ := ha (by decide)
    obtain ⟨m, rfl⟩ := hb (by decide)
    obtain ⟨vi, y2, rfl, hvi, hy2⟩ := DpAll.unconsE (show DpAll K H ya [.int n] from hya)
    cases hvi
    cases hy2
    obtain ⟨vj, y3, rfl, hvj, hy3⟩ := DpAll.unconsE (show DpAll K H yb [.int m] from hyb)
    cases hvj
    cases hy3
    obtain ⟨hn, hm'⟩ := hm3 k n m rfl
    have hr : (¬ (comeOf k n m).natAbs < 10 ^ 60 ∧ o = .f "great") ∨ ((comeOf k n m).natAbs < 10 ^ 60 ∧ o = .s "number" (.num (comeOf k n m))) := by
      rcases due_two hk hdue with ⟨hw, _⟩ | ⟨_, hn, _⟩ | ⟨n', e, ⟨hw, _⟩ | ⟨_, hn, _⟩ | ⟨j, e2, hrest⟩⟩
      · rw [worth_num] at hw
        cases hw
      · exact absurd rfl hn
      · rw [worth_num] at hw
        cases hw
      · exact absurd rfl hn
      · cases e
        cases e2
        exact hrest
    refine ⟨_, rfl, p, _, _, _, rfl, rfl, k1.sqT ht, at_of (j := 0) rfl rfl, _, rfl, p, _, _, _, rfl, rfl, k1.sqT ht, at_of (j := 1) rfl rfl, pa, _, _, _, rfl, rfl, k1.sqT hta, at_of (j := 1) rfl rfl, _, rfl, p, _, _, _, rfl, rfl, k1.sqT ht, at_of (j := 2) rfl rfl, pb, _, _, _, rfl, rfl, k1.sqT htb, at_of (j := 1) rfl rfl, k, n, m, rfl, hn, hm', fun h => ?_, fun h => ?_⟩
    · rcases hr with ⟨h', _⟩ | ⟨_, rfl⟩
      · exact absurd h h'
      refine ⟨_, rfl, rfl, _, rfl, ?_⟩
      refine ite2 (fun c => absurd (of_decide_eq_true c) (fun e => nomatch e)) (fun _ => ?_)
      refine ⟨_, rfl, (by show 2 ≤ sizeLine; decide), fun T1 hT1 => ?_⟩
      have kx : Kp [] H1 (upd H1 T1 (.tup [.str "number", .int (comeOf k n m)])) := Kp.new hT1
      have e1 : Dp K (upd H1 T1 (.tup [.str "number", .int (comeOf k n m)])) (.ref T1) (Lz.P.num (comeOf k n m)).data := Dp.newT hT1 (.cons (.str _) (.cons (.int _) .nil)) rfl
      have k2 := k1.trans kx
      generalize upd H1 T1 (.tup [.str "number", .int (comeOf k n m)]) = H2 at e1 k2 ⊢
      exact ⟨(by show 2 ≤ sizeLine; decide), fun T hT => q (.ref T) _ (k2.trans (Kp.new hT)) (Ww.new hT e1)⟩
    · rcases hr with ⟨_, rfl⟩ | ⟨h', _⟩
      · refine ⟨_, rfl, rfl, _, rfl, ?_⟩
        refine ite2 (fun _ => ?_) (fun c => absurd (decide_eq_true rfl) c)
        exact ⟨(by show 2 ≤ sizeLine; decide), fun T hT => q (.ref T) _ (k1.trans (Kp.new hT)) (fin k1 hT)⟩
      · exact absurd h' h
end
end Lz

set_option Elab.async false
set_option linter.all false
set_option maxRecDepth 100000
set_option maxHeartbeats 8000000
namespace Lz
open PySem PySem.Spec PyProof.Rows L2
theorem sl_one {K : PySem.W.Frag} {H : Hp} {a : Addr} {xs : List V} {lo hi : Option Int} {Q : VK} (ha : SqT K H a xs) (q : ∀ (c : Addr) (H' : Hp), Kp [] H H' → SqT K H' c (cutV xs lo hi) → Q (.ref c) H') : rSlA K (.ref a) lo hi H Q := by
  refine ⟨a, xs, rfl, ha, fun ⟨e1, e2⟩ => ?_, fun _ c hc => q c _ (Kp.new hc) (SqT.of upd_same)⟩
  refine q a H (Kp.refl _ _) ?_
  have e : cutV xs lo hi = xs := by
    unfold cutV
    rw [e1, e2]
    simp
  rw [e]
  exact ha
theorem cutV_to2 (xs : List V) (k : Nat) : cutV xs none (some (k : Int)) = xs.take k := by
  unfold cutV
  rw [HT.sIx_none, HT.sIx_nat]
  simp
theorem cutV_from2 (xs : List V) (k : Nat) : cutV xs (some (k : Int)) none = xs.drop k := by
  unfold cutV
  rw [HT.sIx_none, HT.sIx_nat]
  by_cases h : k ≤ xs.length
  · rw [Nat.min_eq_left h]
    exact List.take_of_length_le (by rw [List.length_drop]; exact Nat.le_refl _)
  · rw [Nat.min_eq_right (by omega), List.drop_length, List.drop_of_length_le (by omega)]
    simp
def spPutBack (K : PySem.W.Frag) : Sp := fun vs H Q _ => ∃ (v : V) (p : Addr) (k : Str) (xs : List V) (j : Nat), vs = [v, .ref p, .int ((j + 1 : Nat) : Int)] ∧ SqT K H p (.str k :: xs) ∧ j < xs.length ∧ xs.length ≤ 60000 ∧ ∀ (c : Addr) (H' : Hp), Kp [] H H' → SqT K H' c (.str k :: xs.set j v) → Q (.ref c) H'
section
variable {P : Program} {w : World} {K : PySem.W.Frag} {mg : Str → Option Value} {base : Heap} {f : Addr} {fd : FuncData}
abbrev sPutBack : Stmt := topS 28
theorem scPutBack : FnScope ["part", "outer", "at"] ["part", "outer", "at"] (defScope sPutBack) := ⟨rfl, rfl, rfl, by decide +kernel, rfl, by decide +kernel, by decide +kernel⟩
theorem ok_putBack (F : Fun K "put_back" "put_back" sPutBack f fd) : FnOk P w K mg base CX0 1 f fd ["part", "outer", "at"] (spPutBack K) := by
  refine F.ok scPutBack (fun vs H Q E h => ?_) (fun cdv A outer s H vs Q E hr h => ?_)
  · obtain ⟨v, p, k, xs, j, rfl, _⟩ := h
    rfl
  obtain ⟨v, p, k, xs, j, rfl, ht, hj, hx, q⟩ := h
  refine ⟨_, (pss_one (ps_ret (pe_tup (StX.pa_starK (K := K) rfl (pe_slice (sl_tupAK (K := K) rfl) (pv 1) po_none (po_some (pv 2))) (pa_cons (pv 0) (StX.pa_starK (K := K) rfl (pe_slice (sl_tupAK (K := K) rfl) (pv 1) (po_some (pe_op op_add (pv 2) pe_int)) po_none) pa_nil)))))), ?_⟩
  refine ⟨_, rfl, _, rfl, _, rfl, ?_⟩
  refine sl_one ht fun c1 H1 k1 h1 => ?_
  rw [cutV_to2] at h1
  refine ⟨c1, _, rfl, .inl h1, _, rfl, _, rfl, _, rfl, _, _, rfl, rfl, _, rfl, ?_⟩
  have e : ((j + 1 : Nat) : Int) + 1 = ((j + 2 : Nat) : Int) := by omega
  rw [e]
  dsimp only [tNoPart]
  refine sl_one (k1.sqT ht) fun c2 H2 k2 h2 => ?_
  rw [cutV_from2] at h2
  refine ⟨c2, _, rfl, .inl h2, ?_⟩
  have ex : (V.str k :: xs).take (j + 1) ++ v :: ((V.str k :: xs).drop (j + 2) ++ []) = .str k :: xs.set j v := by
    rw [List.append_nil, List.take_succ_cons, List.drop_succ_cons, List.cons_append, List.set_eq_take_append_cons_drop, if_pos hj]
  show ((V.str k :: xs).take (j + 1) ++ v :: ((V.str k :: xs).drop (j + 2) ++ [])).length ≤ sizeLine ∧ ∀ (p : Addr), H2 p = none → Q (V.ref p) (upd H2 p (HO.tup ((V.str k :: xs).take (j + 1) ++ v :: ((V.str k :: xs).drop (j + 2) ++ []))))
  rw [ex]
  refine ⟨?_, fun T hT => q T _ ((k1.trans k2).trans (Kp.new hT)) (SqT.of upd_same)⟩
  rw [List.length_cons, List.length_set]
  exact Nat.le_trans (Nat.succ_le_succ hx) (by decide)
end
end Lz

set_option Elab.async false
set_option linter.all false
set_option maxRecDepth 100000
set_option maxHeartbeats 8000000
namespace Lz
open PySem PySem.Spec PyProof.Rows L2
theorem ix_kdK {X : Cx} {K : PySem.W.Frag} {d : Addr} {es : Array DictEntry} {n : Nat} (h : X.K = K) (D : KDict K X.w d es n) : IxR X (fun x y H Q => ∃ (z : Str) (u0 : Value) (v0 : V), x = .ref d ∧ y = .str z ∧ PySem.W.nsIn K d z = some (some u0) ∧ RelV v0 u0 ∧ Q v0 H) := by
  subst h
  intro value slice pins s σ H x y v u Q I rx ry h hs
  obtain ⟨z, u0, v0, rfl, rfl, e, r, q⟩ := h
  exact ix_kdict value slice pins s σ H _ _ v u Q I rx ry ⟨d, z, v0, rfl, rfl, ⟨es, n, u0, D.at_, D.lit, e, r⟩, q⟩ hs
def spDue (K : PySem.W.Frag) : Sp := fun vs H Q _ => ∃ (vp v : V) (fs : List Fn) (d t : Lz.P) (o : Out), vs = [vp, v] ∧ Dp K H vp (progD fs d) ∧ PrS fs d ∧ Dp K H v t.data ∧ t.okS (fs.map (·.1)) ∧ (∀ x, t ≠ .nam x) ∧ t.mw ≤ 60000 ∧ (∀ nm as b, t = .lt nm as b → b.mw ≤ 60000) ∧ (∀ k i j, t = .op k [.num i, .num j] → i.natAbs < 10 ^ 60 ∧ j.natAbs < 10 ^ 60) ∧ (wb fs t = true → o = .w t) ∧ (wb fs t = false → Due fs d t o) ∧
  ∀ (v' : V) (H' : Hp), Kp [] H H' → Dp K H' v' o.data → Q v' H'
/-- DUES as the top leaves it: each kind's rule -/
structure Rules (P : Program) (w : World) (K : PySem.W.Frag) (mg : Str → Option Value) (base : Heap) (dd : Addr) (S : Addr → Option Sp) : Prop where
  held : ∀ f sp, S f = some sp → Held P w K mg base 6 f sp
  rule : ∀ k, k ∈ (["fun", "give", "let", "shut", "plus", "less", "times", "below", "when", "left", "right"] : List Str) → ∃ f ks, PySem.W.nsIn K dd k = some (some (.ref f)) ∧ S f = some (spRule K ks) ∧ k ∈ ks
theorem pair_worth {fs : List Fn} {F : List Str} {as : List Lz.P} (h : (Lz.P.op "pair" as).okS F) : wb fs (.op "pair" as) = true := by
  obtain ⟨a, b, rfl⟩ := two_of (pair_two (show (("pair" : Str), as.length) ∈ kinds2 ∧ _ from h).1)
  exact worth_pair a b
theorem kind_rule {fs : List Fn} {F : List Str} {t : Lz.P} (h : t.okS F) (hn : ∀ x, t ≠ .nam x) (hw : wb fs t = false) : t.hd ∈ (["fun", "give", "let", "shut", "plus", "less", "times", "below", "when", "left", "right"] : List Str) := by
  cases t with
  | num i => rw [worth_num] at hw; cases hw
  | nam x => exact absurd rfl (hn x)
  | fn x => exact List.mem_cons_self
  | lt nm as b => exact (show ("let" : Str) ∈ (["fun", "give", "let", "shut", "plus", "less", "times", "below", "when", "left", "right"] : List Str) by decide +kernel)
  | op k as =>
    have hk := (show (k, as.length) ∈ kinds2 ∧ Lz.P.okSs F as from h).1
    have hp : k ≠ "pair" := fun e => by
      subst e
      rw [pair_worth h] at hw
      cases hw
    have h0 : kinds2.all (fun p => decide (p.1 = "pair") || decide (p.1 ∈ (["fun", "give", "let", "shut", "plus", "less", "times", "below", "when", "left", "right"] : List Str))) = true := by decide +kernel
    have q := List.all_eq_true.mp h0 _ hk
    simp only [Bool.or_eq_true, decide_eq_true_eq] at q
    exact q.resolve_left hp
section
variable {P : Program} {w : World} {K : PySem.W.Frag} {mg : Str → Option Value} {base : Heap} {f : Addr} {fd : FuncData}
abbrev sDue : Stmt := topS 27
theorem scDue : FnScope ["program", "part", "rule"] ["program", "part"] (defScope sDue) := ⟨rfl, rfl, rfl, by decide +kernel, rfl, by decide +kernel, by decide +kernel⟩
theorem ok_due {dd : Addr} {es : Array DictEntry} {n : Nat} {S : Addr → Option Sp} (F : Fun K "due" "due" sDue f fd) (mDUES : mg "DUES" = some (.ref dd)) (DD : KDict K w dd es n) (R : Rules P w K mg base dd S) (CIsWorth : C8.Cal P w K mg base 5 "is_worth" (spIsW K) []) : FnOk P w K mg base CX0 7 f fd ["program", "part"] (spDue K) := by
  refine F.ok scDue (fun vs H Q E h => ?_) (fun cdv A outer s H vs Q E hr h => ?_)
  · obtain ⟨vp, v, fs, d, t, o, rfl, _⟩ := h
    rfl
  have RA := R.held
  obtain ⟨vp, v, fs, d, t, o, rfl, hp, hok, hd, hto, hn, hm, hm2, hm3, hw1, hw2, q⟩ := h
  refine ⟨_, (pss_cons (ps_if (pt_truthK (K := K) rfl (C8.pe_c CIsWorth hr (by first | decide | omega) (by rfl) (pa_cons (pv 0) (pa_cons (pv 1) pa_nil))) (fun _ => rfl)) (pss_one (ps_ret (pe_tup (pa_cons pe_str (pa_cons (pv 1) pa_nil))))) pss_nil)
    (pss_cons (ps_set (i := 2) scDue.nd rfl (.inl rfl) (pe_ix (ix_kdK (K := K) rfl DD) (pe_glob (v := .ref dd) (by rfl) mDUES rfl) (pe_ix (ix_tupK (K := K) rfl) (pv 1) pe_int (fun _ _ => rfl)) (fun _ _ => rfl)))
    (pss_one (ps_ret (pe_callA (i := 2) RA (hr.mono (by omega)) (by rfl) (by first | exact .inl rfl | exact rfl | decide) (pa_cons (pv 0) (pa_cons (pv 1) pa_nil))))))), ?_⟩
  obtain ⟨p, xs, rfl, ht, hxs⟩ := hd_at hd
  refine ⟨_, rfl, _, rfl, vp, .ref p, fs, d, t, rfl, hp, hok, hd, hto, fun H1 k1 => ?_⟩
  refine ⟨_, rfl, ?_⟩
  cases hw : wb fs t with
  | true =>
    obtain rfl := hw1 hw
    refine ite2 (fun _ => ?_) (fun c => absurd rfl c)
    exact ⟨_, rfl, (by show 2 ≤ sizeLine; decide), fun T hT => q (.ref T) _ (k1.trans (Kp.new hT)) (Ww.new hT (Dp.keep k1 _ _ (data_fz _) hd))⟩
  | false =>
    refine ite2 (fun c => absurd c (by simp)) (fun _ => ?_)
    obtain ⟨rf, ks, h1, h2, h3⟩ := R.rule _ (kind_rule hto hn hw)
    refine ⟨_, rfl, p, _, _, _, rfl, rfl, k1.sqT ht, at_of (j := 0) rfl rfl, t.hd, _, .ref rf, rfl, rfl, h1, rfl, ?_⟩
    exact ⟨rf, _, rfl, h2, _, rfl, _, rfl, vp, .ref p, fs, d, t, o, rfl, Dp.keep k1 _ _ (progU_fz _ _) hp, hok, Dp.keep k1 _ _ (data_fz _) hd, hto, h3, hm, hm2, hm3, hw2 hw, fun v' H2 k2 h => q v' H2 (k1.trans k2) h⟩
end
end Lz

set_option Elab.async false
set_option linter.all false
set_option maxRecDepth 100000
set_option maxHeartbeats 8000000
namespace Lz
open PySem PySem.Spec PyProof.Rows L2
theorem fn_one {fs : List Fn} {d : Lz.P} (h : PrOk fs d) {i j : Nat} {g g' : Fn} (hi : fs[i]? = some g) (hj : fs[j]? = some g') (e : g'.1 = g.1) : g' = g := by
  have hn := h.nd
  unfold fnsOf at hn
  rw [List.map_append, List.nodup_append] at hn
  have h1 : (fs.map (·.1))[i]? = some g.1 := by rw [List.getElem?_map, hi]; rfl
  have h2 : (fs.map (·.1))[j]? = some g.1 := by rw [List.getElem?_map, hj, ← e]; rfl
  obtain ⟨li, ei⟩ := List.getElem?_eq_some_iff.mp h1
  obtain ⟨lj, ej⟩ := List.getElem?_eq_some_iff.mp h2
  have hij : i = j := by
    by_cases c : i = j
    · exact c
    · rcases Nat.lt_or_gt_of_ne c with c | c
      · exact absurd (ei.trans ej.symm) (List.pairwise_iff_getElem.mp hn.1 i j li lj c)
      · exact absurd (ej.trans ei.symm) (List.pairwise_iff_getElem.mp hn.1 j i lj li c)
  subst hij
  rw [hi] at hj
  exact (Option.some.inj hj).symm
def spLWants (K : PySem.W.Frag) : Sp := fun vs H Q _ => ∃ (v : V) (fs : List Fn) (d : Lz.P) (i : Nat) (g : Fn), vs = [v, .str g.1] ∧ Dp K H v (progD fs d) ∧ PrOk fs d ∧ fs[i]? = some g ∧ ∀ H', Kp [] H H' → Q (.int (g.2.1.length : Nat)) H'
section
variable {P : Program} {w : World} {K : PySem.W.Frag} {mg : Str → Option Value} {base : Heap} {f : Addr} {fd : FuncData}
abbrev sLWants : Stmt := topS 38
theorem scLWants : FnScope ["_law_program", "_law_f", "_law_name", "_law_names", "_law_body"] ["_law_program", "_law_f"] (defScope sLWants) := ⟨rfl, rfl, rfl, by decide +kernel, rfl, by decide +kernel, by decide +kernel⟩
theorem ok_lwants (F : Fun K "_law_wants" "_law_wants" sLWants f fd) (B : Bt mg) : FnOk P w K mg base CX0 1 f fd ["_law_program", "_law_f"] (spLWants K) := by
  have ml := B.len
  refine F.ok scLWants (fun vs H Q E h => ?_) (fun cdv A outer s H vs Q E hr h => ?_)
  · obtain ⟨v, fs, d, i, g, rfl, _⟩ := h
    rfl
  obtain ⟨v, fs, d, i, g, rfl, hp, hok, hi, q⟩ := h
  refine ⟨_, (pss_one (ps_ret (pe_callB (call_lenK (K := K) rfl) (by rfl) ml PySem.boot_len (pa_cons (pe_ix (ix_listK (K := K) rfl) (pe_lc (own := [("_law_name", 2), ("_law_names", 3), ("_law_body", 4)]) rfl scLWants.nd (pi_tupK (K := K) rfl (pe_ix (ix_tupK (K := K) rfl) (pv 0) pe_int (fun _ _ => rfl))) (blkOk_by (N := ["_law_program", "_law_f", "_law_name", "_law_names", "_law_body"]) (sc := defScope sLWants) (by decide +kernel)) (fun _ _ _ _ _ => (pg_tupK (K := K) (n := 3) rfl rfl (pgs_cons (pg_name (i := 2) scLWants.nd rfl (.inl rfl)) (pgs_cons (pg_name (i := 3) scLWants.nd rfl (.inl rfl)) (pgs_cons (pg_name (i := 4) scLWants.nd rfl (.inl rfl)) pgs_nil))))) (fun _ _ _ _ _ => (pts_one (pt_cmpR op_eq (pv 2) (pv 1) (nomark _)))) (fun _ _ _ _ _ => (pv 3))) pe_int (fun _ _ => rfl)) pa_nil)))), ?_⟩
  obtain ⟨pr, ft, rs, vd, rfl, hpr, hft, hrs, hvd⟩ := prog_at hp
  have h8 := hok.len
  refine ⟨_, rfl, pr, _, _, _, rfl, rfl, hpr, at_of (j := 0) rfl rfl, ft, rfl, ⟨_, hft⟩, fun D hD => ?_⟩
  refine lc_tup (K := K) (a := ft) (xs := rs) (fun j H' => Kp [] H H' ∧ ∃ ws : List V, H' D = some (.lst ws) ∧ ws.length ≤ j ∧ (i < j → ws ≠ []) ∧ ∀ x, x ∈ ws → ∃ r, x = .ref r ∧ SqT K H' r (g.2.1.map V.str))
    ⟨Kp.new hD, [], upd_same, Nat.le_refl _, (fun h => absurd h (Nat.not_lt_zero _)), (fun _ m => nomatch m)⟩ (fun j H' _ ⟨k, _⟩ => k.sqT hft) ?_ ?_
  · rintro j x H1 hj ⟨k1, ws, hws, hwl, hwn, hwx⟩
    obtain ⟨g', t, r, u, hg', rfl, ht, hrr, hu⟩ := fn_atU (Dp.keepAll k1 _ _ (fdU_fz _) hrs) hj
    have hjl := (List.getElem?_eq_some_iff.mp hg').1
    refine ⟨t, _, rfl, ht, rfl, _, _, rfl, _, _, rfl, _, _, rfl, rfl, ?_⟩
    refine ⟨rfl, ?_⟩
    refine ⟨_, rfl, _, rfl, rfl, _, rfl, ?_⟩
    by_cases e : g'.1 = g.1
    · obtain rfl := fn_one hok hi hg' e
      refine ite2 (fun _ => ?_) (fun c => absurd (decide_eq_true rfl) c)
      have kp : Kp [D] H1 (upd H1 D (.lst (ws ++ [.ref r]))) := Kp.put hws List.mem_cons_self
      refine ⟨_, rfl, ws, hws, small60000 (by omega), k1.mut hD, _, upd_same, by rw [List.length_append, List.length_singleton]; omega, (fun _ => by simp), fun x m => ?_⟩
      rcases List.mem_append.mp m with m | m
      · obtain ⟨r', e1, h1⟩ := hwx x m
        exact ⟨r', e1, kp.sqT h1⟩
      · rw [List.mem_singleton.mp m]
        exact ⟨r, rfl, kp.sqT hrr⟩
    · refine ite2 (fun c => absurd (V.str.inj (of_decide_eq_true c)) e) (fun _ => ?_)
      refine ⟨k1, ws, hws, by omega, fun h => ?_, hwx⟩
      by_cases c : i < j
      · exact hwn c
      · have e2 : i = j := by omega
        subst e2
        rw [hi] at hg'
        exact absurd (congrArg (·.1) (Option.some.inj hg')).symm e
  · rintro H1 ⟨k1, ws, hws, hwl, hwn, hwx⟩
    have hrl : rs.length = fs.length := by rw [hrs.length, List.length_map]
    have hil := (List.getElem?_eq_some_iff.mp hi).1
    cases ws with
    | nil => exact absurd rfl (hwn (by rw [hrl]; exact hil))
    | cons w0 r0 =>
      obtain ⟨r, rfl, hr0⟩ := hwx w0 List.mem_cons_self
      refine ⟨D, _, _, _, rfl, rfl, SqL.of hws, at_of (j := 0) rfl rfl, r, _, rfl, .inr hr0, ?_⟩
      rw [List.length_map]
      exact q H1 k1
end
end Lz

set_option Elab.async false
set_option linter.all false
set_option maxRecDepth 100000
set_option maxHeartbeats 4000000
/-! What nine steps make stays small: plain Lean. -/
namespace Lz
open PySem PySem.Spec PyProof.Rows L2
mutual
/-- all its numbers are small enough -/
def P.nums : P → Prop
  | .num i => i.natAbs < 10 ^ 60
  | .nam _ => True
  | .fn _ => True
  | .op _ as => P.numss as
  | .lt _ as b => P.numss as ∧ P.nums b
def P.numss : List P → Prop
  | [] => True
  | a :: as => P.nums a ∧ P.numss as
end
theorem numss_iff : ∀ {as : List P}, P.numss as ↔ ∀ a, a ∈ as → P.nums a
  | [] => ⟨fun _ _ h => (nomatch h), fun _ => True.intro⟩
  | x :: xs => by
    show (P.nums x ∧ P.numss xs) ↔ _
    rw [numss_iff]
    refine ⟨fun h d m => ?_, fun h => ⟨h x List.mem_cons_self, fun d m => h d (List.mem_cons_of_mem _ m)⟩⟩
    rcases List.mem_cons.mp m with e | m
    · rw [e]; exact h.1
    · exact h.2 d m
theorem numss_mem {as : List P} {a : P} (h : P.numss as) (m : a ∈ as) : P.nums a := numss_iff.mp h a m
/-- where a part waits undone -/
def lzy (k : Str) (j : Nat) : Prop := k = "shut" ∨ k = "pair" ∨ (k = "give" ∧ 1 ≤ j) ∨ (k = "when" ∧ 1 ≤ j)
mutual
/-- lets are small, and what waits undone -/
def P.iv (M D : Nat) : P → Prop
  | .num _ => True
  | .nam _ => True
  | .fn _ => True
  | .op k as => (∀ j a, as[j]? = some a → lzy k j → a.mw ≤ 2 * M + 1) ∧ P.ivs M D as
  | .lt _ as b => P.mws as ≤ M ∧ b.mw ≤ M ∧ P.dws as + 1 ≤ D ∧ b.dw + 1 ≤ D ∧ P.ivs M D as ∧ P.iv M D b
def P.ivs (M D : Nat) : List P → Prop
  | [] => True
  | a :: as => P.iv M D a ∧ P.ivs M D as
end
theorem ivs_iff {M D : Nat} : ∀ {as : List P}, P.ivs M D as ↔ ∀ a, a ∈ as → a.iv M D
  | [] => ⟨fun _ _ h => (nomatch h), fun _ => True.intro⟩
  | x :: xs => by
    show (P.iv M D x ∧ P.ivs M D xs) ↔ _
    rw [ivs_iff]
    refine ⟨fun h d m => ?_, fun h => ⟨h x List.mem_cons_self, fun d m => h d (List.mem_cons_of_mem _ m)⟩⟩
    rcases List.mem_cons.mp m with e | m
    · rw [e]; exact h.1
    · exact h.2 d m
theorem dws_mem {as : List P} {a : P} (h : a ∈ as) : a.dw ≤ P.dws as := by
  induction as with
  | nil => exact nomatch h
  | cons x r ih =>
    show a.dw ≤ max x.dw (P.dws r)
    rcases List.mem_cons.mp h with e | m
    · rw [e]; omega
    · have := ih m
      omega
section
variable {th : List (Str × P)} {M D : Nat}
mutual
theorem iv_put (hp : ∀ x p, (x, p) ∈ th → p.iv M D ∧ p.mw ≤ 2 * M + 1) : ∀ t : P, t.iv M D → (P.put th t).iv M D
  | .num _, _ => True.intro
  | .nam x, h => by
    cases e : getT th x with
    | some p =>
      obtain ⟨y, hy⟩ := getT_mem e
      have q := hp y p hy
      rw [put_name e]
      refine ⟨fun j a hj _ => ?_, q.1, True.intro⟩
      have : a ∈ [p] := List.mem_of_getElem? hj
      rw [List.mem_singleton.mp this]
      exact q.2
    | none => rw [put_name0 e]; exact h
  | .fn _, _ => True.intro
  | .op k as, h => by
    show (∀ j a, (if k = "shut" then as else P.puts th as)[j]? = some a → lzy k j → a.mw ≤ 2 * M + 1) ∧ P.ivs M D (if k = "shut" then as else P.puts th as)
    by_cases e : k = "shut"
    · rw [if_pos e]; exact h
    · rw [if_neg e]
      refine ⟨fun j a hj hl => ?_, ivs_put hp as h.2⟩
      rw [puts_map, List.getElem?_map] at hj
      cases e2 : as[j]? with
      | none => rw [e2] at hj; cases hj
      | some b =>
        rw [e2] at hj
        obtain rfl : P.put th b = a := Option.some.inj hj
        rw [mw_put]
        exact h.1 j b e2 hl
  | .lt nm as b, h => by
    have h' : P.mws as ≤ M ∧ b.mw ≤ M ∧ P.dws as + 1 ≤ D ∧ b.dw + 1 ≤ D ∧ P.ivs M D as ∧ P.iv M D b := h
    refine ⟨?_, ?_, ?_, ?_, ivs_put hp as h'.2.2.2.2.1, iv_put hp b h'.2.2.2.2.2⟩
    · rw [mws_puts]; exact h'.1
    · rw [mw_put]; exact h'.2.1
    · rw [dws_puts]; exact h'.2.2.1
    · rw [dw_put]; exact h'.2.2.2.1
theorem ivs_put (hp : ∀ x p, (x, p) ∈ th → p.iv M D ∧ p.mw ≤ 2 * M + 1) : ∀ as : List P, P.ivs M D as → P.ivs M D (P.puts th as)
  | [], _ => True.intro
  | a :: as, h => ⟨iv_put hp a h.1, ivs_put hp as h.2⟩
end
mutual
theorem nums_put (hp : ∀ x p, (x, p) ∈ th → P.nums p) : ∀ t : P, P.nums t → P.nums (P.put th t)
  | .num _, h => h
  | .nam x, h => by
    cases e : getT th x with
    | some p =>
      obtain ⟨y, hy⟩ := getT_mem e
      rw [put_name e]
      exact ⟨hp y p hy, True.intro⟩
    | none => rw [put_name0 e]; exact h
  | .fn _, _ => True.intro
  | .op k as, h => by
    show P.numss (if k = "shut" then as else P.puts th as)
    by_cases e : k = "shut"
    · rw [if_pos e]; exact h
    · rw [if_neg e]; exact numss_put hp as h
  | .lt nm as b, h => ⟨numss_put hp as h.1, nums_put hp b h.2⟩
theorem numss_put (hp : ∀ x p, (x, p) ∈ th → P.nums p) : ∀ as : List P, P.numss as → P.numss (P.puts th as)
  | [], _ => True.intro
  | a :: as, h => ⟨nums_put hp a h.1, numss_put hp as h.2⟩
end
end
mutual
theorem nums_fit {F : List Str} : ∀ (t : P) (sc : List Str), t.fit F sc → P.nums t
  | .num _, _, h => h
  | .nam _, _, _ => True.intro
  | .fn _, _, _ => True.intro
  | .op _ as, sc, h => numss_fit as sc h
  | .lt nm as b, sc, h => ⟨numss_fit as _ h.2.2.1, nums_fit b _ h.2.2.2⟩
theorem numss_fit {F : List Str} : ∀ (as : List P) (sc : List Str), P.fits F as sc → P.numss as
  | [], _, _ => True.intro
  | a :: as, sc, h => ⟨nums_fit a sc h.1, numss_fit as sc h.2⟩
end
theorem mws_cons (a : P) (as : List P) : P.mws (a :: as) = a.mw + P.mws as := by
  show (a.alw ++ P.alws as).length = _
  rw [List.length_append]
  rfl
theorem mw_op {k : Str} {as : List P} (hk : k ≠ "shut") : (P.op k as).mw = P.mws as + 1 := by
  have h1 := mw_win (P.op k as)
  have h2 : (P.op k as).win = as := if_neg hk
  rw [h2] at h1
  exact h1
theorem mw_lt (nm : List Str) (as : List P) (b : P) : (P.lt nm as b).mw = P.mws as + b.mw + 1 := by
  have h1 := mw_win (P.lt nm as b)
  have h2 : P.mws (P.lt nm as b).win = P.mws as + b.mw := by
    show P.mws (as ++ [b]) = _
    rw [mws_append, mws_one]
  rw [h2] at h1
  exact h1
theorem mw_shut (as : List P) : (P.op "shut" as).mw = 1 := by
  have h1 := mw_win (P.op "shut" as)
  have h2 : (P.op "shut" as).win = [] := by
    show (if ("shut" : Str) = "shut" then [] else as) = []
    rw [if_pos rfl]
  rw [h2] at h1
  exact h1
theorem dw_op {k : Str} {as : List P} (hk : k ≠ "shut") : (P.op k as).dw = 1 + P.dws as := by
  show 1 + (if k = "shut" then 0 else P.dws as) = _
  rw [if_neg hk]
theorem kind_not_shut {k : Str} {n : Nat} (h : (k, n) ∈ kinds) : k ≠ "shut" := fun e => by
  have h0 : kinds.all (fun p => decide (p.1 ≠ "shut")) = true := by decide +kernel
  exact (of_decide_eq_true (List.all_eq_true.mp h0 _ h)) e
mutual
theorem iv_ok {M D : Nat} : ∀ t : P, t.ok → t.mw ≤ M → t.dw ≤ D → t.iv M D
  | .num _, _, _, _ => True.intro
  | .nam _, _, _, _ => True.intro
  | .fn _, _, _, _ => True.intro
  | .op k as, h, hm, hd => by
    have h' : (k, as.length) ∈ kinds ∧ P.oks as := h
    have hk := kind_not_shut h'.1
    rw [mw_op hk] at hm
    rw [dw_op hk] at hd
    refine ⟨fun j a hj _ => ?_, ivs_ok as h'.2 (by omega) (by omega)⟩
    have := mws_mem (List.mem_of_getElem? hj)
    omega
  | .lt nm as b, h, hm, hd => by
    have h' : nm.length = as.length ∧ (∀ x, x ∈ nm → nmOk x) ∧ P.oks as ∧ P.ok b := h
    rw [mw_lt] at hm
    have hd' : 1 + max (P.dws as) b.dw ≤ D := hd
    exact ⟨by omega, by omega, by omega, by omega, ivs_ok as h'.2.2.1 (by omega) (by omega), iv_ok b h'.2.2.2 (by omega) (by omega)⟩
theorem ivs_ok {M D : Nat} : ∀ as : List P, P.oks as → P.mws as ≤ M → P.dws as ≤ D → P.ivs M D as
  | [], _, _, _ => True.intro
  | a :: as, h, hm, hd => by
    rw [mws_cons] at hm
    have hd' : max a.dw (P.dws as) ≤ D := hd
    exact ⟨iv_ok a h.1 (by omega) (by omega), ivs_ok as h.2 (by omega) (by omega)⟩
end
theorem mws_set : ∀ {as : List P} {j : Nat} {a u : P}, as[j]? = some a → P.mws (as.set j u) + a.mw = P.mws as + u.mw
  | [], j, a, u, h => by simp at h
  | x :: as, 0, a, u, h => by
    obtain rfl : x = a := Option.some.inj h
    show P.mws (u :: as) + _ = _
    rw [mws_cons, mws_cons]
    omega
  | x :: as, j + 1, a, u, h => by
    have ih := mws_set (as := as) (j := j) (u := u) h
    show P.mws (x :: as.set j u) + _ = _
    rw [mws_cons, mws_cons]
    omega
theorem deeps_set : ∀ (as : List P) (j : Nat) (u : P), P.deeps (as.set j u) ≤ max (P.deeps as) u.deep
  | [], j, u => Nat.zero_le _
  | x :: as, 0, u => by
    show max u.deep (P.deeps as) ≤ max (max x.deep (P.deeps as)) u.deep
    omega
  | x :: as, j + 1, u => by
    have := deeps_set as j u
    show max x.deep (P.deeps (as.set j u)) ≤ max (max x.deep (P.deeps as)) u.deep
    omega
theorem set_mem {as : List P} {j : Nat} {u b : P} (h : b ∈ as.set j u) : b = u ∨ b ∈ as := by
  rcases List.mem_or_eq_of_mem_set h with m | e
  · exact .inr m
  · exact .inl e
/-! ### what is given -/
theorem gv_iv {M D : Nat} {t h : P} {ts : List P} (g : Gv t h ts) : t.iv M D → ∀ x, x ∈ ts → x.iv M D ∧ x.mw ≤ 2 * M + 1 := by
  induction g with
  | stop _ => exact fun _ _ m => nomatch m
  | @give a b h ts _ ih =>
    intro hi x m
    have hi' : (∀ j c, [a, b][j]? = some c → lzy "give" j → c.mw ≤ 2 * M + 1) ∧ P.iv M D a ∧ P.iv M D b ∧ True := hi
    rcases List.mem_append.mp m with m | m
    · exact ih hi'.2.1 x m
    · rw [List.mem_singleton.mp m]
      exact ⟨hi'.2.2.1, hi'.1 1 b rfl (.inr (.inr (.inl ⟨rfl, Nat.le_refl _⟩)))⟩
theorem gv_deep {t h : P} {ts : List P} (g : Gv t h ts) : (∀ x, x ∈ ts → x.deep + 1 ≤ t.deep) ∧ ts.length + 1 ≤ t.deep := by
  induction g with
  | @stop t _ => exact ⟨fun _ m => (nomatch m), deep_pos t⟩
  | @give a b h ts _ ih =>
    have e : (P.op "give" [a, b]).deep = 1 + max a.deep (max b.deep 0) := rfl
    refine ⟨fun x m => ?_, ?_⟩
    · rcases List.mem_append.mp m with m | m
      · have := ih.1 x m
        omega
      · rw [List.mem_singleton.mp m]
        omega
    · rw [List.length_append]
      show ts.length + 1 + 1 ≤ _
      have := ih.2
      omega
theorem gv_all {Q : P → Prop} (hq : ∀ a b, Q (.op "give" [a, b]) → Q a ∧ Q b) {t h : P} {ts : List P} (g : Gv t h ts) : Q t → ∀ x, x ∈ ts → Q x := by
  induction g with
  | stop _ => exact fun _ _ m => nomatch m
  | @give a b h ts _ ih =>
    intro hi x m
    rcases List.mem_append.mp m with m | m
    · exact ih (hq a b hi).1 x m
    · rw [List.mem_singleton.mp m]
      exact (hq a b hi).2
/-! ### one step -/
/-- a closed part that is stepped -/
structure Ok10 (fs : List Fn) (M D : Nat) (t : P) : Prop where
  ok : t.okS (fs.map (·.1))
  cl : t.cl []
  nums : P.nums t
  iv : t.iv M D
/-- a program that is stepped through -/
structure Pr10 (fs : List Fn) (d : P) (M D : Nat) : Prop where
  ok : ∀ g, g ∈ fnsOf fs d → g.2.2.okS (fs.map (·.1))
  cl : ∀ g, g ∈ fnsOf fs d → g.2.2.cl g.2.1
  nums : ∀ g, g ∈ fnsOf fs d → P.nums g.2.2
  iv : ∀ g, g ∈ fnsOf fs d → g.2.2.iv M D
  mw : ∀ g, g ∈ fnsOf fs d → g.2.2.mw ≤ M
  dw : ∀ g, g ∈ fnsOf fs d → g.2.2.deep ≤ D
theorem Fits.pr10 {fs : List Fn} {d : P} (h : Fits fs d) : Pr10 fs d 60 12 where
  ok := fun g m => okS_of g.2.2 g.2.1 (h.bd g m).ok (h.ft g m)
  cl := fun g m => cl_of_fit g.2.2 g.2.1 (h.bd g m).ok (h.ft g m)
  nums := fun g m => nums_fit g.2.2 g.2.1 (h.ft g m)
  iv := fun g m => iv_ok g.2.2 (h.bd g m).ok (Nat.le_trans (mw_many _) (h.bd g m).many) (Nat.le_trans (dw_deep _) (h.bd g m).deep)
  mw := fun g m => Nat.le_trans (mw_many _) (h.bd g m).many
  dw := fun g m => (h.bd g m).deep
theorem Ok10.inn {fs : List Fn} {M D : Nat} {k : Str} {as : List P} {a : P} (g : Ok10 fs M D (.op k as)) (m : a ∈ as) : Ok10 fs M D a where
  ok := okSs_iff.mp (show (k, as.length) ∈ kinds2 ∧ P.okSs (fs.map (·.1)) as from g.ok).2 a m
  cl := by
    have h : P.cls (if k = "shut" then [] else []) as := g.cl
    rw [ite_self] at h
    exact cls_iff.mp h a m
  nums := numss_mem (show P.numss as from g.nums) m
  iv := ivs_iff.mp (show _ ∧ P.ivs M D as from g.iv).2 a m
theorem Ok10.put {fs : List Fn} {M D : Nat} {th : List (Str × P)} {b : P} {xs : List Str} (ho : b.okS (fs.map (·.1))) (hc : b.cl xs) (hn : P.nums b) (hi : b.iv M D) (hx : ∀ x, x ∈ xs → getT th x ≠ none) (hth : ∀ x p, (x, p) ∈ th → Ok10 fs M D p ∧ p.mw ≤ 2 * M + 1) : Ok10 fs M D (P.put th b) where
  ok := okS_put (fun x p m => (hth x p m).1.ok) b ho
  cl := cl_put (fun x p m => (hth x p m).1.cl) b (fun x m => .inr (hx x m)) hc
  nums := nums_put (fun x p m => (hth x p m).1.nums) b hn
  iv := iv_put (fun x p m => ⟨(hth x p m).1.iv, (hth x p m).2⟩) b hi
theorem zip_mem2 {α β : Type} : ∀ {xs : List α} {ys : List β} {x : α} {y : β}, (x, y) ∈ xs.zip ys → y ∈ ys
  | [], _, _, _, h => by simp at h
  | _ :: _, [], _, _, h => by simp at h
  | a :: xs, b :: ys, x, y, h => by
    rw [List.zip_cons_cons] at h
    rcases List.mem_cons.mp h with e | m
    · cases e
      exact List.mem_cons_self
    · exact List.mem_cons_of_mem _ (zip_mem2 m)
theorem zip_names {β : Type} : ∀ {xs : List Str} {ys : List β}, xs.length = ys.length → (xs.zip ys).map (·.1) = xs
  | [], [], _ => rfl
  | x :: xs, y :: ys, h => by
    show x :: (xs.zip ys).map (·.1) = x :: xs
    rw [zip_names (Nat.succ.inj h)]
  | [], _ :: _, h => nomatch h
  | _ :: _, [], h => nomatch h
/-- what one step makes is a closed part again, and not much greater -/
theorem due_ok {fs : List Fn} {d t u : P} {x : Str} {M D : Nat} (pr : Pr10 fs d M D) (q : Due fs d t (.s x u)) (g : Ok10 fs M D t) : Ok10 fs M D u ∧ u.mw ≤ t.mw + (2 * M + 1) ∧ u.deep + 1 ≤ t.deep + D := by
  have hD : 1 ≤ D := Nat.le_trans (deep_pos d) (pr.dw (askedFn d) (List.mem_append_right _ List.mem_cons_self))
  cases q with
  | shut =>
    refine ⟨g.inn List.mem_cons_self, ?_, ?_⟩
    · have := (show _ ∧ _ from g.iv).1 0 u rfl (.inl rfl)
      omega
    · have e : (P.op "shut" [u]).deep = 1 + max u.deep 0 := rfl
      omega
  | @lett nm as b =>
    have ho : nm.length = as.length ∧ (∀ x, x ∈ nm → nmOk x) ∧ P.okSs (fs.map (·.1)) as ∧ P.okS (fs.map (·.1)) b := g.ok
    have hc : P.cls ([] ++ nm) as ∧ P.cl ([] ++ nm) b := g.cl
    have hn : P.numss as ∧ P.nums b := g.nums
    have hi : P.mws as ≤ M ∧ b.mw ≤ M ∧ P.dws as + 1 ≤ D ∧ b.dw + 1 ≤ D ∧ P.ivs M D as ∧ P.iv M D b := g.iv
    have hth : ∀ x p, (x, p) ∈ mergeT [] (nm.zip (as.map fun a => P.lt nm as a)) → ∃ a, a ∈ as ∧ p = P.lt nm as a := fun x p m => by
      rcases mergeT_mem m with ⟨z, hz⟩ | m
      · obtain ⟨a, ha, e⟩ := List.mem_map.mp (zip_mem2 hz)
        exact ⟨a, ha, e.symm⟩
      · exact nomatch m
    refine ⟨Ok10.put (xs := nm) ho.2.2.2 hc.2 hn.2 hi.2.2.2.2.2 (fun x m => mergeT_get x _ _ (.inr ?_)) fun x p m => ?_, ?_, ?_⟩
    · rw [zip_names (by rw [List.length_map]; exact ho.1)]
      exact m
    · obtain ⟨a, ha, rfl⟩ := hth x p m
      have h1 := mws_mem ha
      have h2 := dws_mem ha
      refine ⟨⟨⟨ho.1, ho.2.1, ho.2.2.1, okSs_iff.mp ho.2.2.1 a ha⟩, ⟨hc.1, cls_iff.mp hc.1 a ha⟩, ⟨hn.1, numss_mem hn.1 ha⟩, ⟨hi.1, by omega, hi.2.2.1, by omega, hi.2.2.2.2.1, ivs_iff.mp hi.2.2.2.2.1 a ha⟩⟩, ?_⟩
      rw [mw_lt]
      omega
    · rw [mw_put]
      have := hi.2.1
      omega
    · have e : (P.lt nm as b).deep = 1 + max (P.deeps as) b.deep := rfl
      have h1 := deep_put (th := mergeT [] (nm.zip (as.map fun a => P.lt nm as a))) (D := 1 + P.deeps as) (fun x p m => by
        obtain ⟨a, ha, rfl⟩ := hth x p m
        have := deeps_mem ha
        show 1 + max (P.deeps as) a.deep ≤ _
        omega) b
      have h2 := hi.2.2.2.1
      omega
  | @call _ ts f i hw hg hi hl =>
    have hf : f ∈ fnsOf fs d := List.mem_of_getElem? hi
    have hts := gv_iv hg g.iv
    have hall : ∀ x, x ∈ ts → Ok10 fs M D x := gv_all (Q := fun t => Ok10 fs M D t) (fun a b h => ⟨h.inn List.mem_cons_self, h.inn (List.mem_cons_of_mem _ List.mem_cons_self)⟩) hg g
    have hth : ∀ x p, (x, p) ∈ mergeT [] (f.2.1.zip ts) → p ∈ ts := fun x p m => by
      rcases mergeT_mem m with ⟨z, hz⟩ | m
      · exact zip_mem2 hz
      · exact nomatch m
    refine ⟨Ok10.put (xs := f.2.1) (pr.ok f hf) (pr.cl f hf) (pr.nums f hf) (pr.iv f hf) (fun x m => mergeT_get x _ _ (.inr ?_)) fun x p m => ⟨hall p (hth x p m), (hts p (hth x p m)).2⟩, ?_, ?_⟩
    · rw [zip_names hl]
      exact m
    · rw [mw_put]
      have := pr.mw f hf
      omega
    · have h1 := deep_put (th := mergeT [] (f.2.1.zip ts)) (D := t.deep - 1) (fun x p m => by have := (gv_deep hg).1 p (hth x p m); omega) f.2.2
      have h0 := deep_pos t
      have h2 := pr.dw f hf
      have h3 := dw_deep f.2.2
      omega
  | @two k i j hk h =>
    refine ⟨⟨True.intro, True.intro, h, True.intro⟩, ?_, ?_⟩
    · have : (P.num (comeOf k i j)).mw = 1 := rfl
      omega
    · have := deep_pos (P.op k [.num i, .num j])
      show 1 + 1 ≤ _
      omega
  | @when i b c =>
    have hm := mw_op (k := "when") (as := [.num i, b, c]) (by decide +kernel)
    have h1 : P.mws [.num i, b, c] = 1 + (b.mw + (c.mw + 0)) := by
      rw [mws_cons, mws_cons, mws_cons]
      rfl
    have e : (P.op "when" [.num i, b, c]).deep = 1 + max 1 (max b.deep (max c.deep 0)) := rfl
    split
    · exact ⟨g.inn (List.mem_cons_of_mem _ List.mem_cons_self), by omega, by omega⟩
    · exact ⟨g.inn (List.mem_cons_of_mem _ (List.mem_cons_of_mem _ List.mem_cons_self)), by omega, by omega⟩
  | @side k a b hk =>
    have hks : k ≠ "shut" := by rcases hk with rfl | rfl <;> decide +kernel
    have hm := mw_op (k := k) (as := [.op "pair" [a, b]]) hks
    have hm2 := mw_op (k := "pair") (as := [a, b]) (by decide +kernel)
    have h1 : P.mws [P.op "pair" [a, b]] = (P.op "pair" [a, b]).mw + 0 := by rw [mws_cons]; rfl
    have h2 : P.mws [a, b] = a.mw + (b.mw + 0) := by rw [mws_cons, mws_cons]; rfl
    have e : (P.op k [P.op "pair" [a, b]]).deep = 1 + max (1 + max a.deep (max b.deep 0)) 0 := rfl
    have gp := g.inn (a := .op "pair" [a, b]) List.mem_cons_self
    split
    · exact ⟨gp.inn List.mem_cons_self, by omega, by omega⟩
    · exact ⟨gp.inn (List.mem_cons_of_mem _ List.mem_cons_self), by omega, by omega⟩
theorem gv_nil {a h : P} {ts : List P} (g : Gv a h ts) (e : ts = []) : h = a := by
  cases g with
  | stop _ => rfl
  | give _ => exact absurd e (by simp)
theorem shut_one {n : Nat} (h : (("shut" : Str), n) ∈ kinds2) : n = 1 := by
  unfold kinds2 kinds at h
  simp only [List.mem_cons, Prod.mk.injEq, List.not_mem_nil, or_false] at h
  rcases h with h | h | h | h | h | h | h | h | h | h
  · exact h.2
  all_goals exact absurd h.1 (by decide +kernel)
/-- what is no worth has a next step, a fault or a part to go to -/
theorem due_ex {fs : List Fn} {d t : P} {M D : Nat} (hnd : (fs.map (·.1)).Nodup) (g : Ok10 fs M D t) (hw : wb fs t = false) : ∃ o, Due fs d t o ∧ ((∃ x, o = .f x) ∨ (∃ x u, o = .s x u) ∨ ∃ (k : Str) (as : List P) (a : P) (j : Nat), t = .op k as ∧ o = .inn (j + 1) ∧ as[j]? = some a ∧ wb fs a = false ∧ ¬ lzy k j) := by
  have call : ∀ (f : Str) (ts : List P), Gv t (.fn f) ts → f ∈ fs.map (·.1) → worthB fs ts.length (.fn f) = false → (∀ g, g ∈ fs → g.1 = f → ts.length ≤ g.2.1.length) → (t = .fn f ∨ ∃ a b, t = .op "give" [a, b] ∧ wb fs a = true ∧ a.hd ≠ "number" ∧ a.hd ≠ "pair") → ∃ o, Due fs d t o ∧ ((∃ x, o = .f x) ∨ (∃ x u, o = .s x u) ∨ ∃ (k : Str) (as : List P) (a : P) (j : Nat), t = .op k as ∧ o = .inn (j + 1) ∧ as[j]? = some a ∧ wb fs a = false ∧ ¬ lzy k j) := fun f ts hg hf hb hle hs => by
    obtain ⟨gg, hgm, rfl⟩ := List.mem_map.mp hf
    obtain ⟨i, hi⟩ := List.mem_iff_getElem?.mp hgm
    have hwt := wants_at hnd hi
    rw [worth_fn, hwt] at hb
    have hlt : ¬ ts.length < gg.2.1.length := of_decide_eq_false hb
    have h2 := hle gg hgm rfl
    have hi' : (fnsOf fs d)[i]? = some gg := by
      show (fs ++ [askedFn d])[i]? = some gg
      rw [List.getElem?_append_left (List.getElem?_eq_some_iff.mp hi).1]
      exact hi
    exact ⟨_, .call hs hg hi' (by omega), .inr (.inl ⟨_, _, rfl⟩)⟩
  cases t with
  | num i => rw [worth_num] at hw; cases hw
  | nam x => exact nomatch (show x ∈ ([] : List Str) from g.cl)
  | fn f =>
    have hf : nmOk f ∧ f ∈ fs.map (·.1) := g.ok
    have hs : Gv (.fn f) (.fn f) [] := .stop (by show ("fun" : Str) ≠ "give"; decide +kernel)
    have hb := wb_eq (fs := fs) hs.spine
    rw [hw] at hb
    exact call f [] hs hf.2 hb.symm (fun _ _ _ => Nat.zero_le _) (.inl rfl)
  | lt nm as b => exact ⟨_, .lett, .inr (.inl ⟨_, _, rfl⟩)⟩
  | op k as =>
    have hk : (k, as.length) ∈ kinds2 := (show (k, as.length) ∈ kinds2 ∧ P.okSs (fs.map (·.1)) as from g.ok).1
    have hks : k = "shut" ∨ k = "give" ∨ k ∈ fours ∨ k = "when" ∨ k = "pair" ∨ (k = "left" ∨ k = "right") := by
      unfold kinds2 kinds at hk
      simp only [List.mem_cons, Prod.mk.injEq, List.not_mem_nil, or_false] at hk
      rcases hk with h | h | h | h | h | h | h | h | h | h
      · exact .inl h.1
      · exact .inr (.inl h.1)
      · exact .inr (.inr (.inl (by rw [h.1]; decide +kernel)))
      · exact .inr (.inr (.inl (by rw [h.1]; decide +kernel)))
      · exact .inr (.inr (.inl (by rw [h.1]; decide +kernel)))
      · exact .inr (.inr (.inl (by rw [h.1]; decide +kernel)))
      · exact .inr (.inr (.inr (.inl h.1)))
      · exact .inr (.inr (.inr (.inr (.inl h.1))))
      · exact .inr (.inr (.inr (.inr (.inr (.inl h.1)))))
      · exact .inr (.inr (.inr (.inr (.inr (.inr h.1)))))
    rcases hks with rfl | rfl | h4 | rfl | rfl | hs
    · obtain ⟨a, rfl⟩ := one_of (shut_one hk)
      exact ⟨_, .shut, .inr (.inl ⟨_, _, rfl⟩)⟩
    · obtain ⟨a, b, rfl⟩ := two_of (give_two hk)
      cases ha : wb fs a with
      | false => exact ⟨_, .giveIn ha, .inr (.inr ⟨_, _, a, 0, rfl, rfl, rfl, ha, fun h => by rcases h with h | h | h | h <;> first | exact absurd h (by decide +kernel) | exact absurd h.2 (by decide) | exact absurd h.1 (by decide +kernel)⟩)⟩
      | true =>
        by_cases h1 : a.hd = "number"
        · exact ⟨_, .giveF ha (.inl h1), .inl ⟨_, rfl⟩⟩
        by_cases h2 : a.hd = "pair"
        · exact ⟨_, .giveF ha (.inr h2), .inl ⟨_, rfl⟩⟩
        have hao : a.okS (fs.map (·.1)) := (g.inn (a := a) List.mem_cons_self).ok
        obtain ⟨h, ts, hg, hho, _⟩ := gv_ex a.many a (Nat.le_refl _) hao
        have hwa := wb_eq (fs := fs) hg.spine
        rw [ha] at hwa
        have hf : h.hd = "fun" := by
          by_cases hf : h.hd = "fun"
          · exact hf
          · rw [worth_not hf] at hwa
            have hwa := hwa.symm
            rw [Bool.and_eq_true, Bool.or_eq_true, decide_eq_true_iff, decide_eq_true_iff, decide_eq_true_iff] at hwa
            have e0 : ts = [] := List.eq_nil_of_length_eq_zero hwa.1
            have e1 : h = a := gv_nil hg e0
            rw [e1] at hwa
            exact hwa.2.elim (fun e => absurd e h1) (fun e => absurd e h2)
        obtain ⟨f, rfl, hfm⟩ := hd_fun hho hf
        have hg2 : Gv (.op "give" [a, b]) (.fn f) (ts ++ [b]) := .give hg
        have hwt := wb_eq (fs := fs) hg2.spine
        rw [hw] at hwt
        refine call f (ts ++ [b]) hg2 hfm hwt.symm (fun gg hgm e => ?_) (.inr ⟨a, b, rfl, ha, h1, h2⟩)
        obtain ⟨i, hi⟩ := List.mem_iff_getElem?.mp hgm
        have hw2 := wants_at hnd hi
        rw [e] at hw2
        rw [worth_fn, hw2] at hwa
        have := of_decide_eq_true hwa.symm
        rw [List.length_append]
        exact this
    · obtain ⟨a, b, rfl⟩ := two_of (fours_two h4 hk)
      have hnz : ∀ j, ¬ lzy k j := fun j h => by
        have hf := fours_not h4
        rcases h with h | h | h | h
        · exact hf.1 h
        · rw [h] at h4
          exact absurd h4 (by decide +kernel)
        · exact hf.2.1 h.1
        · exact hf.2.2.1 h.1
      cases ha : wb fs a with
      | false => exact ⟨_, .two1 h4 ha, .inr (.inr ⟨_, _, a, 0, rfl, rfl, rfl, ha, hnz 0⟩)⟩
      | true =>
        by_cases h1 : a.hd = "number"
        · obtain ⟨i, rfl⟩ := num_of (g.inn (a := a) List.mem_cons_self).ok h1
          cases hb : wb fs b with
          | false => exact ⟨_, .two2 h4 hb, .inr (.inr ⟨_, _, b, 1, rfl, rfl, rfl, hb, hnz 1⟩)⟩
          | true =>
            by_cases h2 : b.hd = "number"
            · obtain ⟨j, rfl⟩ := num_of (g.inn (a := b) (List.mem_cons_of_mem _ List.mem_cons_self)).ok h2
              by_cases h3 : (comeOf k i j).natAbs < 10 ^ 60
              · exact ⟨_, .two h4 h3, .inr (.inl ⟨_, _, rfl⟩)⟩
              · exact ⟨_, .twoG h4 h3, .inl ⟨_, rfl⟩⟩
            · exact ⟨_, .twoF2 h4 hb h2, .inl ⟨_, rfl⟩⟩
        · exact ⟨_, .twoF1 h4 ha h1, .inl ⟨_, rfl⟩⟩
    · obtain ⟨a, b, c, rfl⟩ := three_of (when_three hk)
      cases ha : wb fs a with
      | false => exact ⟨_, .when1 ha, .inr (.inr ⟨_, _, a, 0, rfl, rfl, rfl, ha, fun h => by rcases h with h | h | h | h <;> first | exact absurd h (by decide +kernel) | exact absurd h.2 (by decide) | exact absurd h.1 (by decide +kernel)⟩)⟩
      | true =>
        by_cases h1 : a.hd = "number"
        · obtain ⟨i, rfl⟩ := num_of (g.inn (a := a) List.mem_cons_self).ok h1
          exact ⟨_, .when, .inr (.inl ⟨_, _, rfl⟩)⟩
        · exact ⟨_, .whenF ha h1, .inl ⟨_, rfl⟩⟩
    · obtain ⟨a, b, rfl⟩ := two_of (pair_two hk)
      rw [worth_pair] at hw
      cases hw
    · obtain ⟨a, rfl⟩ := one_of (side_one hs hk)
      have hnz : ∀ j, ¬ lzy k j := fun j h => by
        rcases hs with rfl | rfl <;> rcases h with h | h | h | h <;> first | exact absurd h (by decide +kernel) | exact absurd h.1 (by decide +kernel)
      cases ha : wb fs a with
      | false => exact ⟨_, .side1 hs ha, .inr (.inr ⟨_, _, a, 0, rfl, rfl, rfl, ha, hnz 0⟩)⟩
      | true =>
        by_cases h1 : a.hd = "pair"
        · obtain ⟨as, rfl, hka, _⟩ := hd_op (g.inn (a := a) List.mem_cons_self).ok h1 (by decide +kernel) (by decide +kernel) (by decide +kernel) (by decide +kernel)
          obtain ⟨x, y, rfl⟩ := two_of (pair_two hka)
          exact ⟨_, .side hs, .inr (.inl ⟨_, _, rfl⟩)⟩
        · exact ⟨_, .sideF hs ha h1, .inl ⟨_, rfl⟩⟩
end Lz

set_option Elab.async false
set_option linter.all false
set_option autoImplicit false
set_option maxRecDepth 100000
set_option maxHeartbeats 4000000
/-! Steps of a whole part, told by the part gone to and what is around it: plain Lean. -/
namespace Lz
open PySem PySem.Spec PyProof.Rows L2
theorem win_mwA {t a : P} (m : a ∈ t.win) : a.mw + 1 ≤ t.mw := by
  have h1 := mws_mem m
  have h2 := mw_win t
  omega
theorem win_op' {k : Str} {as : List P} (hk : k ≠ "shut") : (P.op k as).win = as := if_neg hk
/-- what is around: kind, parts, place -/
abbrev Ctxt := Str × List P × Nat
def Out.back (c : Ctxt) : Out → Out
  | .s x t => .s x (.op c.1 (c.2.1.set c.2.2 t))
  | o => o
/-- the innermost first -/
def plug : List Ctxt → Out → Out
  | [], o => o
  | c :: r, o => plug r (o.back c)
def plugP : List Ctxt → P → P
  | [], t => t
  | c :: r, t => plugP r (.op c.1 (c.2.1.set c.2.2 t))
theorem plug_f (x : Str) : ∀ cs : List Ctxt, plug cs (.f x) = .f x
  | [] => rfl
  | c :: r => plug_f x r
theorem plug_s (x : Str) : ∀ (cs : List Ctxt) (t : P), plug cs (.s x t) = .s x (plugP cs t)
  | [], _ => rfl
  | c :: r, t => plug_s x r _
section
variable {fs : List Fn} {d : P}
/-- the next step, by those of parts within -/
inductive StepR (fs : List Fn) (d : P) : P → Out → Prop
  | here {t u : P} {x : Str} : wb fs t = false → Due fs d t (.s x u) → StepR fs d t (.s x u)
  | fault {t : P} {x : Str} : wb fs t = false → Due fs d t (.f x) → StepR fs d t (.f x)
  | inn {k : Str} {as : List P} {a : P} {j : Nat} {o : Out} : wb fs (.op k as) = false → Due fs d (.op k as) (.inn (j + 1)) → as[j]? = some a → StepR fs d a o → StepR fs d (.op k as) (o.back (k, as, j))
theorem StepR.wb {t : P} {o : Out} (h : StepR fs d t o) : Lz.wb fs t = false := by
  cases h with
  | here hw _ => exact hw
  | fault hw _ => exact hw
  | inn hw _ _ _ => exact hw
theorem due_word {t u : P} {x : Str} (q : Due fs d t (.s x u)) : x ≠ "within" ∧ x ≠ "worth" ∧ x ≠ "fault" := by
  cases q <;> exact ⟨by decide +kernel, by decide +kernel, by decide +kernel⟩
theorem StepR.out {t : P} {o : Out} (h : StepR fs d t o) : (∃ x, o = .f x) ∨ ∃ x u, o = .s x u ∧ x ≠ "fault" := by
  induction h with
  | here _ hd => exact .inr ⟨_, _, rfl, (due_word hd).2.2⟩
  | fault _ _ => exact .inl ⟨_, rfl⟩
  | @inn k as a j o _ _ _ _ ih =>
    rcases ih with ⟨x, rfl⟩ | ⟨x, u, rfl, h⟩
    · exact .inl ⟨x, rfl⟩
    · exact .inr ⟨x, _, rfl, h⟩
/-- where one goes within -/
inductive Ev : Ctxt → Prop
  | give {a b : P} : Ev ("give", [a, b], 0)
  | two1 {k : Str} {a b : P} : k ∈ fours → Ev (k, [a, b], 0)
  | two2 {k : Str} {i : Int} {b : P} : k ∈ fours → Ev (k, [.num i, b], 1)
  | when {a b c : P} : Ev ("when", [a, b, c], 0)
  | side {k : Str} {a : P} : (k = "left" ∨ k = "right") → Ev (k, [a], 0)
theorem Ev.lt {c : Ctxt} (h : Ev c) : c.2.2 < c.2.1.length ∧ c.2.1.length ≤ 3 ∧ c.1 ≠ "shut" ∧ ¬ lzy c.1 c.2.2 := by
  have nz : ∀ {k : Str} (j : Nat), k ∈ fours → ¬ lzy k j := fun {k} j hk h => by
    have hf := fours_not hk
    have hp : k ≠ "pair" := fun e => by
      rw [e] at hk
      exact absurd hk (by decide +kernel)
    rcases h with h | h | h | h
    · exact hf.1 h
    · exact hp h
    · exact hf.2.1 h.1
    · exact hf.2.2.1 h.1
  have z0 : ∀ {k : Str} (m : k = "give" ∨ k = "when" ∨ k = "left" ∨ k = "right"), ¬ lzy k 0 := fun {k} m h => by
    rcases h with h | h | ⟨_, h⟩ | ⟨_, h⟩
    · rcases m with rfl | rfl | rfl | rfl <;> exact absurd h (by decide +kernel)
    · rcases m with rfl | rfl | rfl | rfl <;> exact absurd h (by decide +kernel)
    · exact absurd h (by decide)
    · exact absurd h (by decide)
  cases h with
  | give => exact ⟨by show 0 < 2; decide, by show 2 ≤ 3; decide, by show ("give" : Str) ≠ "shut"; decide +kernel, z0 (.inl rfl)⟩
  | two1 k => exact ⟨by show 0 < 2; decide, by show 2 ≤ 3; decide, (fours_not k).1, nz _ k⟩
  | two2 k => exact ⟨by show 1 < 2; decide, by show 2 ≤ 3; decide, (fours_not k).1, nz _ k⟩
  | when => exact ⟨by show 0 < 3; decide, by show 3 ≤ 3; decide, by show ("when" : Str) ≠ "shut"; decide +kernel, z0 (.inr (.inl rfl))⟩
  | @side k a h =>
    have hs : k ≠ "shut" := by
      rcases h with rfl | rfl
      · exact (show ("left" : Str) ≠ "shut" by decide +kernel)
      · exact (show ("right" : Str) ≠ "shut" by decide +kernel)
    exact ⟨by show 0 < 1; decide, by show 1 ≤ 3; decide, hs, z0 (.inr (.inr h))⟩
theorem Ev.set {k : Str} {as : List P} {j : Nat} (h : Ev (k, as, j)) (u : P) : Ev (k, as.set j u, j) := by
  cases h with
  | give => exact .give
  | two1 k => exact .two1 k
  | two2 k => exact .two2 k
  | when => exact .when
  | side k => exact .side k
theorem due_ev {t : P} {n : Nat} (q : Due fs d t (.inn n)) : ∃ k as j a, t = .op k as ∧ n = j + 1 ∧ Ev (k, as, j) ∧ as[j]? = some a ∧ wb fs a = false := by
  cases q with
  | giveIn h => exact ⟨_, _, 0, _, rfl, rfl, .give, rfl, h⟩
  | two1 k h => exact ⟨_, _, 0, _, rfl, rfl, .two1 k, rfl, h⟩
  | two2 k h => exact ⟨_, _, 1, _, rfl, rfl, .two2 k, rfl, h⟩
  | when1 h => exact ⟨_, _, 0, _, rfl, rfl, .when, rfl, h⟩
  | side1 k h => exact ⟨_, _, 0, _, rfl, rfl, .side k, rfl, h⟩
theorem ev_due {k : Str} {as : List P} {j : Nat} {u : P} (h : Ev (k, as, j)) (hu : wb fs u = false) : Due fs d (.op k (as.set j u)) (.inn (j + 1)) := by
  cases h with
  | give => exact .giveIn hu
  | two1 k => exact .two1 k hu
  | two2 k => exact .two2 k hu
  | when => exact .when1 hu
  | side k => exact .side1 k hu
theorem wb_iff {t : P} : wb fs t = true ↔ ∃ n h, Spine t n h ∧ worthB fs n h = true := by
  unfold wb
  rw [@decide_eq_true_iff _ (Classical.propDecidable _)]
theorem wb_give {a b : P} (h : wb fs a = false) : wb fs (.op "give" [a, b]) = false := by
  cases e : wb fs (.op "give" [a, b]) with
  | false => rfl
  | true =>
    obtain ⟨n, hd, s, hw⟩ := wb_iff.mp e
    cases s with
    | stop q => exact absurd rfl q
    | @give _ _ _ n s =>
      have : wb fs a = true := by
        rw [wb_eq s]
        cases hd with
        | fn f =>
          rw [worth_fn] at hw ⊢
          have := of_decide_eq_true hw
          exact decide_eq_true (by omega)
        | num i => simp [worthB] at hw
        | nam i => simp [worthB] at hw
        | op k as => simp [worthB] at hw
        | lt nm as b => simp [worthB] at hw
      rw [h] at this
      cases this
theorem wb_op {k : Str} {as : List P} (h1 : k ≠ "give") (h2 : k ≠ "pair") (h3 : k ≠ "number") (h4 : k ≠ "fun") : wb fs (.op k as) = false := by
  rw [wb_eq (Spine.stop (show (P.op k as).hd ≠ "give" from h1)), worth_not (show (P.op k as).hd ≠ "fun" from h4)]
  have e1 : ((P.op k as).hd = "number") = False := eq_false h3
  have e2 : ((P.op k as).hd = "pair") = False := eq_false h2
  simp [e1, e2]
theorem wb_let {nm : List Str} {as : List P} {b : P} : wb fs (.lt nm as b) = false := by
  rw [wb_eq (Spine.stop (show (P.lt nm as b).hd ≠ "give" from by show ("let" : Str) ≠ "give"; decide +kernel)), worth_not (show (P.lt nm as b).hd ≠ "fun" from by show ("let" : Str) ≠ "fun"; decide +kernel)]
  have e1 : ((P.lt nm as b).hd = "number") = False := eq_false (show ¬ ("let" : Str) = "number" by decide +kernel)
  have e2 : ((P.lt nm as b).hd = "pair") = False := eq_false (show ¬ ("let" : Str) = "pair" by decide +kernel)
  simp [e1, e2]
theorem four_wb {k : Str} {as : List P} (hk : k ∈ fours) : wb fs (.op k as) = false := by
  have h := fours_op hk
  have hp : k ≠ "pair" := fun e => by
    rw [e] at hk
    exact absurd hk (by decide +kernel)
  exact wb_op (fours_not hk).2.1 hp h.1 h.2.2.1
theorem ev_wb {k : Str} {as : List P} {j : Nat} {u : P} (h : Ev (k, as, j)) (hu : wb fs u = false) : wb fs (.op k (as.set j u)) = false := by
  cases h with
  | give => exact wb_give hu
  | two1 k => exact four_wb k
  | two2 k => exact four_wb k
  | when => exact wb_op (by decide +kernel) (by decide +kernel) (by decide +kernel) (by decide +kernel)
  | side k => rcases k with rfl | rfl <;> exact wb_op (by decide +kernel) (by decide +kernel) (by decide +kernel) (by decide +kernel)
theorem set_at {as : List P} {j : Nat} {u : P} (h : j < as.length) : (as.set j u)[j]? = some u := by
  rw [List.getElem?_set_self h]
theorem back_set (k : Str) (as : List P) (j : Nat) (u : P) (o : Out) : o.back (k, as.set j u, j) = o.back (k, as, j) := by
  cases o with
  | s x t =>
    show Out.s x (.op k ((as.set j u).set j t)) = .s x (.op k (as.set j t))
    rw [List.set_set]
  | w t => rfl
  | f x => rfl
  | inn n => rfl
/-- a step of the part gone to is one of the whole -/
theorem step_plug : ∀ (cs : List Ctxt), (∀ c, c ∈ cs → Ev c) → ∀ {t : P} {o : Out}, wb fs t = false → StepR fs d t o → StepR fs d (plugP cs t) (plug cs o)
  | [], _, _, _, _, h => h
  | (k, as, j) :: r, he, t, o, hw, h => by
    have ev := he _ List.mem_cons_self
    have hs : StepR fs d (.op k (as.set j t)) (o.back (k, as.set j t, j)) := .inn (ev_wb ev hw) (ev_due ev hw) (set_at ev.lt.1) h
    rw [back_set] at hs
    exact step_plug r (fun c m => he c (List.mem_cons_of_mem _ m)) (ev_wb ev hw) hs
theorem plug_wb : ∀ (cs : List Ctxt), (∀ c, c ∈ cs → Ev c) → ∀ {t : P}, wb fs t = false → wb fs (plugP cs t) = false
  | [], _, _, h => h
  | (k, as, j) :: r, he, t, hw => plug_wb r (fun c m => he c (List.mem_cons_of_mem _ m)) (ev_wb (he _ List.mem_cons_self) hw)
theorem due_only {k : Str} {as : List P} {j : Nat} {u : P} {o : Out} (h : Ev (k, as, j)) (hu : wb fs u = false) (q : Due fs d (.op k (as.set j u)) o) : o = .inn (j + 1) := by
  cases h with
  | give =>
    rcases due_give q with ⟨_, e⟩ | ⟨h, _⟩ | ⟨h, _⟩
    · exact e
    · rw [hu] at h; cases h
    · rw [hu] at h; cases h
  | two1 k =>
    rcases due_two k q with ⟨_, e⟩ | ⟨h, _⟩ | ⟨i, e, _⟩
    · exact e
    · rw [hu] at h; cases h
    · rw [e, worth_num] at hu; cases hu
  | two2 k =>
    rcases due_two k q with ⟨h, _⟩ | ⟨_, h, _⟩ | ⟨i, e, ⟨_, e2⟩ | ⟨h, _⟩ | ⟨j, e2, _⟩⟩
    · rw [worth_num] at h; cases h
    · exact absurd rfl h
    · exact e2
    · rw [hu] at h; cases h
    · rw [e2, worth_num] at hu; cases hu
  | when =>
    rcases due_when q with ⟨_, e⟩ | ⟨h, _⟩ | ⟨i, e, _⟩
    · exact e
    · rw [hu] at h; cases h
    · rw [e, worth_num] at hu; cases hu
  | side k =>
    rcases due_side k q with ⟨_, e⟩ | ⟨h, _⟩ | ⟨x, y, e, _⟩
    · exact e
    · rw [hu] at h; cases h
    · rw [e, worth_pair] at hu; cases hu
theorem step_un1 {k : Str} {as : List P} {j : Nat} {u t : P} {o : Out} (ev : Ev (k, as, j)) (hu : wb fs u = false) (e : t = .op k (as.set j u)) (h : StepR fs d t o) : ∃ oa, StepR fs d u oa ∧ o = oa.back (k, as, j) := by
  cases h with
  | here _ hd =>
    rw [e] at hd
    cases due_only ev hu hd
  | fault _ hd =>
    rw [e] at hd
    cases due_only ev hu hd
  | @inn k' as' a j' oa hw hd ha hs =>
    injection e with e1 e2
    subst e1
    subst e2
    cases due_only ev hu hd
    rw [set_at ev.lt.1] at ha
    cases ha
    exact ⟨oa, hs, back_set _ _ _ _ _⟩
/-- a step of the whole is one of the part gone to -/
theorem step_unplug : ∀ (cs : List Ctxt), (∀ c, c ∈ cs → Ev c) → ∀ {t : P} {o : Out}, wb fs t = false → StepR fs d (plugP cs t) o → ∃ oa, StepR fs d t oa ∧ o = plug cs oa
  | [], _, _, o, _, h => ⟨o, h, rfl⟩
  | (k, as, j) :: r, he, t, o, hw, h => by
    have ev := he _ List.mem_cons_self
    obtain ⟨oa, h1, e1⟩ := step_unplug r (fun c m => he c (List.mem_cons_of_mem _ m)) (ev_wb ev hw) (show StepR fs d (plugP r (.op k (as.set j t))) o from h)
    obtain ⟨ob, h2, e2⟩ := step_un1 ev hw rfl h1
    exact ⟨ob, h2, by rw [e1, e2]; rfl⟩
theorem plug_deep : ∀ (cs : List Ctxt), (∀ c, c ∈ cs → Ev c) → ∀ (t : P), t.deep + cs.length ≤ (plugP cs t).deep
  | [], _, t => Nat.le_refl _
  | (k, as, j) :: r, he, t => by
    have ev := he _ List.mem_cons_self
    have h1 := plug_deep r (fun c m => he c (List.mem_cons_of_mem _ m)) (.op k (as.set j t))
    have h2 : t ∈ as.set j t := List.mem_of_getElem? (set_at ev.lt.1)
    have h3 := deeps_mem h2
    have e : (P.op k (as.set j t)).deep = 1 + P.deeps (as.set j t) := rfl
    show t.deep + (r.length + 1) ≤ (plugP r (.op k (as.set j t))).deep
    omega
structure Good (fs : List Fn) (t : P) : Prop where
  ok : t.okS (fs.map (·.1))
  cl : t.cl []
  mw : t.mw ≤ 60000
  lay : ∃ W, t.lay W 60000
  nums : P.nums t
/-- what each part on the way must keep -/
structure Fine (fs : List Fn) (t : P) : Prop where
  ok : t.okS (fs.map (·.1))
  nn : ∀ x, t ≠ .nam x
  mw : t.mw ≤ 60000
  lt : ∀ nm as b, t = .lt nm as b → b.mw ≤ 60000
  nb : ∀ k i j, t = .op k [.num i, .num j] → i.natAbs < 10 ^ 60 ∧ j.natAbs < 10 ^ 60
theorem Good.fine {t : P} (g : Good fs t) : Fine fs t where
  ok := g.ok
  nn := fun x e => by
    have h := g.cl
    rw [e] at h
    exact nomatch (show x ∈ ([] : List Str) from h)
  mw := g.mw
  lt := fun nm as b e => by
    obtain ⟨W, h⟩ := g.lay
    rw [e] at h
    exact (show b.mw ≤ 60000 ∧ _ from h).1
  nb := fun k i j e => by
    have h := g.nums
    rw [e] at h
    exact ⟨(show i.natAbs < 10 ^ 60 ∧ _ from h).1, (show i.natAbs < 10 ^ 60 ∧ j.natAbs < 10 ^ 60 ∧ True from h).2.1⟩
theorem Good.inn {k : Str} {as : List P} {a : P} (g : Good fs (.op k as)) (hk : k ≠ "shut") (m : a ∈ as) : Good fs a where
  ok := okSs_iff.mp (show (k, as.length) ∈ kinds2 ∧ P.okSs (fs.map (·.1)) as from g.ok).2 a m
  cl := cls_iff.mp ((cl_op hk).mp g.cl) a m
  mw := by
    have h := win_mwA (t := .op k as) (a := a) (by rw [win_op' hk]; exact m)
    have := g.mw
    omega
  lay := by
    obtain ⟨W, h⟩ := g.lay
    exact ⟨W, lays_iff.mp (show _ ∧ P.lays W 60000 as from h).2 a m⟩
  nums := numss_mem (show P.numss as from g.nums) m
theorem good_unplug : ∀ (cs : List Ctxt), (∀ c, c ∈ cs → Ev c) → ∀ {t : P}, Good fs (plugP cs t) → Good fs t
  | [], _, _, h => h
  | (k, as, j) :: r, he, t, h => by
    have ev := he _ List.mem_cons_self
    have h1 := good_unplug r (fun c m => he c (List.mem_cons_of_mem _ m)) (show Good fs (plugP r (.op k (as.set j t))) from h)
    exact h1.inn ev.lt.2.2.1 (List.mem_of_getElem? (set_at ev.lt.1))
theorem ok_unplug {M D : Nat} : ∀ (cs : List Ctxt), (∀ c, c ∈ cs → Ev c) → ∀ {t : P}, Ok10 fs M D (plugP cs t) → Ok10 fs M D t
  | [], _, _, h => h
  | (k, as, j) :: r, he, t, h => by
    have ev := he _ List.mem_cons_self
    have h1 := ok_unplug r (fun c m => he c (List.mem_cons_of_mem _ m)) (show Ok10 fs M D (plugP r (.op k (as.set j t))) from h)
    exact h1.inn (List.mem_of_getElem? (set_at ev.lt.1))
mutual
theorem lay_iv {M D N W : Nat} (hM : M ≤ N) : ∀ t : P, t.iv M D → t.deep ≤ W → t.lay W N
  | .num _, _, _ => True.intro
  | .nam _, _, _ => True.intro
  | .fn _, _, _ => True.intro
  | .op k as, h, hd => by
    have e : (P.op k as).deep = 1 + P.deeps as := rfl
    have h1 := dws_deeps as
    exact ⟨fun _ => by omega, lays_iv hM as h.2 (by omega)⟩
  | .lt nm as b, h, hd => by
    have h' : P.mws as ≤ M ∧ b.mw ≤ M ∧ P.dws as + 1 ≤ D ∧ b.dw + 1 ≤ D ∧ P.ivs M D as ∧ P.iv M D b := h
    have e : (P.lt nm as b).deep = 1 + max (P.deeps as) b.deep := rfl
    exact ⟨Nat.le_trans h'.2.1 hM, lays_iv hM as h'.2.2.2.2.1 (by omega), lay_iv hM b h'.2.2.2.2.2 (by omega)⟩
theorem lays_iv {M D N W : Nat} (hM : M ≤ N) : ∀ as : List P, P.ivs M D as → P.deeps as ≤ W → P.lays W N as
  | [], _, _ => True.intro
  | a :: as, h, hd => by
    have e : P.deeps (a :: as) = max a.deep (P.deeps as) := rfl
    exact ⟨lay_iv hM a h.1 (by omega), lays_iv hM as h.2 (by omega)⟩
end
theorem Ok10.good {t : P} {M D : Nat} (g : Ok10 fs M D t) (hm : t.mw ≤ 60000) (hM : M ≤ 60000) : Good fs t :=
  ⟨g.ok, g.cl, hm, ⟨t.deep, lay_iv hM t g.iv (Nat.le_refl _)⟩, g.nums⟩
theorem set_iv {M D : Nat} {k : Str} {as : List P} {j : Nat} {u : P} (h : (P.op k as).iv M D) (hn : ¬ lzy k j) (hu : u.iv M D) : (P.op k (as.set j u)).iv M D := by
  have h' : (∀ j a, as[j]? = some a → lzy k j → a.mw ≤ 2 * M + 1) ∧ P.ivs M D as := h
  refine ⟨fun i a hi hl => ?_, ivs_iff.mpr fun b m => ?_⟩
  · by_cases e : i = j
    · rw [e] at hl
      exact absurd hl hn
    · rw [List.getElem?_set_ne (fun q => e q.symm)] at hi
      exact h'.1 i a hi hl
  · rcases set_mem m with rfl | m
    · exact hu
    · exact ivs_iff.mp h'.2 b m
/-- what a step makes is a closed part again, and not much greater -/
theorem stepR_ok {M D : Nat} (pr : Pr10 fs d M D) {t : P} {o : Out} (h : StepR fs d t o) : ∀ {x : Str} {u : P}, o = .s x u → Ok10 fs M D t → Ok10 fs M D u ∧ u.mw ≤ t.mw + (2 * M + 1) ∧ u.deep + 1 ≤ t.deep + D := by
  have hD : 1 ≤ D := Nat.le_trans (deep_pos d) (pr.dw (askedFn d) (List.mem_append_right _ List.mem_cons_self))
  induction h with
  | here _ hd =>
    intro x u e g
    cases e
    exact due_ok pr hd g
  | fault _ _ => intro x u e; cases e
  | @inn k as a j o hw hd ha _ ih =>
    intro x u e g
    obtain ⟨k', as', j', a', e1, e2, ev, _, _⟩ := due_ev hd
    cases e1
    cases e2
    cases o with
    | f y => cases e
    | w y => cases e
    | inn y => cases e
    | s y v =>
      cases e
      have hm := List.mem_of_getElem? ha
      obtain ⟨gu, hmu, hdu⟩ := ih rfl (g.inn hm)
      have hks := ev.lt.2.2.1
      have hok : (k, as.length) ∈ kinds2 ∧ P.okSs (fs.map (·.1)) as := g.ok
      have e : (P.op k as).deep = 1 + P.deeps as := rfl
      have h1 := deeps_mem hm
      refine ⟨⟨⟨by rw [List.length_set]; exact hok.1, okSs_iff.mpr fun b m => ?_⟩, (cl_op hks).mpr (cls_iff.mpr fun b m => ?_), numss_iff.mpr fun b m => ?_, set_iv g.iv ev.lt.2.2.2 gu.iv⟩, ?_, ?_⟩
      · rcases set_mem m with rfl | m
        · exact gu.ok
        · exact okSs_iff.mp hok.2 b m
      · rcases set_mem m with rfl | m
        · exact gu.cl
        · exact (g.inn m).cl
      · rcases set_mem m with rfl | m
        · exact gu.nums
        · exact (g.inn m).nums
      · show (P.op k (as.set j v)).mw ≤ _
        rw [mw_op hks, mw_op hks]
        have := mws_set (u := v) ha
        omega
      · have h3 := deeps_set as j v
        show 1 + P.deeps (as.set j v) + 1 ≤ _
        omega
/-- a closed part that is no worth has a next step or a fault -/
theorem step_ex {M D : Nat} (pr : Pr10 fs d M D) (hnd : (fs.map (·.1)).Nodup) : ∀ (n : Nat) (t : P), t.deep ≤ n → Ok10 fs M D t → wb fs t = false → ∃ o, StepR fs d t o := fun n => by
  induction n with
  | zero =>
    intro t hn _ _
    have := deep_pos t
    omega
  | succ n ih =>
    intro t hn g hw
    obtain ⟨o, hd, ho | ho | ho⟩ := due_ex hnd g hw
    · obtain ⟨x, rfl⟩ := ho
      exact ⟨_, .fault hw hd⟩
    · obtain ⟨x, u, rfl⟩ := ho
      exact ⟨_, .here hw hd⟩
    · obtain ⟨k, as, a, j, rfl, rfl, ha, hwa, hnl⟩ := ho
      have hm := List.mem_of_getElem? ha
      have e : (P.op k as).deep = 1 + P.deeps as := rfl
      have h1 := deeps_mem hm
      obtain ⟨oa, hs⟩ := ih a (by omega) (g.inn hm) hwa
      exact ⟨_, .inn hw hd ha hs⟩
/-! ### going on by steps -/
inductive Rs where
  | w (t : P)
  | f (x : Str)
  | more
/-- from here, so many words being gone: the words further on, and what is come to -/
inductive Cm (fs : List Fn) (d : P) (most : Nat) : Nat → P → List Str → Rs → Prop
  | w {n : Nat} {t : P} : wb fs t = true → Cm fs d most n t [] (.w t)
  | f {n : Nat} {t : P} {x : Str} : StepR fs d t (.f x) → Cm fs d most n t [] (.f x)
  | more {n : Nat} {t u : P} {x : Str} : StepR fs d t (.s x u) → most ≤ n → Cm fs d most n t [] .more
  | s {n : Nat} {t u : P} {x : Str} {ws : List Str} {r : Rs} : StepR fs d t (.s x u) → n < most → Cm fs d most (n + 1) u ws r → Cm fs d most n t (x :: ws) r
theorem Cm.len {most n : Nat} {t : P} {ws : List Str} {r : Rs} (h : Cm fs d most n t ws r) : n ≤ most → n + ws.length ≤ most := by
  induction h with
  | w _ => intro h; exact h
  | f _ => intro h; exact h
  | more _ _ => intro h; exact h
  | s _ hn _ ih =>
    intro _
    have := ih hn
    rw [List.length_cons]
    omega
/-- with one more it is as before, and perhaps goes on -/
theorem Cm.succ {M D most n : Nat} (pr : Pr10 fs d M D) (hnd : (fs.map (·.1)).Nodup) {t : P} {ws : List Str} {r : Rs} (h : Cm fs d most n t ws r) : Ok10 fs M D t → n ≤ most → ∃ ws' r', Cm fs d (most + 1) n t ws' r' ∧ (∃ tl, ws' = ws ++ tl) ∧ (r ≠ .more → r' = r ∧ ws' = ws) := by
  induction h with
  | w h => intro _ _; exact ⟨_, _, .w h, ⟨[], rfl⟩, fun _ => ⟨rfl, rfl⟩⟩
  | f h => intro _ _; exact ⟨_, _, .f h, ⟨[], rfl⟩, fun _ => ⟨rfl, rfl⟩⟩
  | @more n t u x h hm =>
    intro g hn
    obtain ⟨gu, _, _⟩ := stepR_ok pr h rfl g
    cases hw : wb fs u with
    | true => exact ⟨_, _, .s h (by omega) (.w hw), ⟨[x], rfl⟩, fun q => absurd rfl q⟩
    | false =>
      obtain ⟨o, ho⟩ := step_ex pr hnd u.deep u (Nat.le_refl _) gu hw
      rcases ho.out with ⟨y, rfl⟩ | ⟨y, v, rfl, _⟩
      · exact ⟨_, _, .s h (by omega) (.f ho), ⟨[x], rfl⟩, fun q => absurd rfl q⟩
      · exact ⟨_, _, .s h (by omega) (.more ho (by omega)), ⟨[x], rfl⟩, fun q => absurd rfl q⟩
  | @s n t u x ws r h hn _ ih =>
    intro g _
    obtain ⟨gu, _, _⟩ := stepR_ok pr h rfl g
    obtain ⟨ws', r', h1, ⟨tl, e1⟩, h2⟩ := ih gu hn
    exact ⟨x :: ws', r', .s h (by omega) h1, ⟨tl, by rw [e1]; rfl⟩, fun q => ⟨(h2 q).1, by rw [(h2 q).2]⟩⟩
end
end Lz

set_option Elab.async false
set_option linter.all false
set_option maxRecDepth 100000
set_option maxHeartbeats 8000000
namespace Lz
open PySem PySem.Spec PyProof.Rows L2
/-- contexts as the list around has them, the outermost first -/
def Aro (K : PySem.W.Frag) (H : Hp) : List V → List Ctxt → Prop
  | [], [] => True
  | v :: vs, c :: cs => (∃ (za po : Addr), v = .ref za ∧ SqT K H za [.ref po, .int ((c.2.2 + 1 : Nat) : Int)] ∧ Dp K H (.ref po) (Lz.P.op c.1 c.2.1).data) ∧ Aro K H vs cs
  | _, _ => False
theorem Aro.keep {K : PySem.W.Frag} {H H' : Hp} {S : List Addr} (k : Kp S H H') : ∀ {vs : List V} {cs : List Ctxt}, Aro K H vs cs → Aro K H' vs cs
  | [], [], _ => True.intro
  | v :: vs, c :: cs, ⟨⟨za, po, e, h1, h2⟩, r⟩ => ⟨⟨za, po, e, k.sqT h1, Dp.keep k _ _ (data_fz _) h2⟩, Aro.keep k r⟩
  | [], _ :: _, h => h.elim
  | _ :: _, [], h => h.elim
theorem Aro.snoc {K : PySem.W.Frag} {H : Hp} {v : V} {c : Ctxt} (hv : ∃ (za po : Addr), v = .ref za ∧ SqT K H za [.ref po, .int ((c.2.2 + 1 : Nat) : Int)] ∧ Dp K H (.ref po) (Lz.P.op c.1 c.2.1).data) : ∀ {vs : List V} {cs : List Ctxt}, Aro K H vs cs → Aro K H (vs ++ [v]) (cs ++ [c])
  | [], [], _ => ⟨hv, True.intro⟩
  | w :: vs, e :: cs, ⟨h, r⟩ => ⟨h, Aro.snoc hv r⟩
  | [], _ :: _, h => h.elim
  | _ :: _, [], h => h.elim
theorem Aro.length {K : PySem.W.Frag} {H : Hp} : ∀ {vs : List V} {cs : List Ctxt}, Aro K H vs cs → vs.length = cs.length
  | [], [], _ => rfl
  | _ :: _, _ :: _, ⟨_, r⟩ => by rw [List.length_cons, List.length_cons, Aro.length r]
  | [], _ :: _, h => h.elim
  | _ :: _, [], h => h.elim
theorem Aro.unsnoc {K : PySem.W.Frag} {H : Hp} {c : Ctxt} : ∀ {ys : List V} {cs : List Ctxt}, Aro K H ys (cs ++ [c]) → ∃ yi v, ys = yi ++ [v] ∧ Aro K H yi cs ∧ ∃ (za po : Addr), v = .ref za ∧ SqT K H za [.ref po, .int ((c.2.2 + 1 : Nat) : Int)] ∧ Dp K H (.ref po) (Lz.P.op c.1 c.2.1).data
  | [], [], h => h.elim
  | [], _ :: _, h => h.elim
  | [v], [], h => ⟨[], v, rfl, True.intro, h.1⟩
  | v :: w :: r, [], h => (show False from h.2).elim
  | v :: r, e :: cs, h => by
    obtain ⟨yi, u, e1, h1, h2⟩ := Aro.unsnoc (ys := r) (cs := cs) h.2
    exact ⟨v :: yi, u, by rw [e1]; rfl, ⟨h.1, h1⟩, h2⟩
theorem DpAll.setP {K : PySem.W.Frag} {H : Hp} {v : V} {u : Lz.P} (hv : Dp K H v u.data) : ∀ {as : List Lz.P} {xs : List V} {j : Nat}, DpAll K H xs (Lz.P.datas as) → DpAll K H (xs.set j v) (Lz.P.datas (as.set j u))
  | [], xs, j, h => by
    cases h
    exact .nil
  | a :: as, xs, j, h => by
    obtain ⟨x, r, rfl, h1, h2⟩ := DpAll.uncons h
    cases j with
    | zero => exact .cons hv h2
    | succ j => exact .cons h1 (DpAll.setP hv h2)
/-- the whole part, of the part gone to and what is around it -/
abbrev wh (cs : List Ctxt) (t : Lz.P) : Lz.P := plugP cs.reverse t
theorem wh_snoc (cs : List Ctxt) (k : Str) (as : List Lz.P) (j : Nat) (t : Lz.P) : wh (cs ++ [(k, as, j)]) t = wh cs (.op k (as.set j t)) := by
  unfold wh
  rw [List.reverse_append]
  rfl
/-- where the step is, and what is around it -/
def spGo (K : PySem.W.Frag) : Sp := fun vs H Q _ => ∃ (vp v : V) (la : Addr) (fs : List Fn) (d t : Lz.P) (ys : List V) (cs : List Ctxt), vs = [vp, v, .ref la] ∧ Dp K H vp (progD fs d) ∧ PrS fs d ∧ Dp K H v t.data ∧ H la = some (.lst ys) ∧ Aro K H ys cs ∧ (∀ c, c ∈ cs → Ev c) ∧ Good fs (wh cs t) ∧ (wh cs t).deep ≤ 30000 ∧
  ((wb fs (wh cs t) = true ∧ ∀ (v' : V) (H' : Hp), Kp [la] H H' → H' la = some (.lst []) → Dp K H' v' (Out.w (wh cs t)).data → Q v' H') ∨
   (∃ o, StepR fs d (wh cs t) o ∧ ∀ (v' : V) (ys' : List V) (cs' : List Ctxt) (o' : Out) (H' : Hp), Kp [la] H H' → H' la = some (.lst ys') → Aro K H' ys' cs' → (∀ c, c ∈ cs' → Ev c) → plug cs'.reverse o' = o → ((∃ x, o' = .f x) ∨ ∃ x u, o' = .s x u ∧ x ≠ "fault" ∧ x ≠ "worth") → Dp K H' v' o'.data → Q v' H'))
section
variable {P : Program} {w : World} {K : PySem.W.Frag} {mg : Str → Option Value} {base : Heap} {f : Addr} {fd : FuncData}
abbrev sGoToStep : Stmt := topS 29
theorem scGoToStep : FnScope ["program", "part", "around", "told", "outer", "at"] ["program", "part", "around"] (defScope sGoToStep) := ⟨rfl, rfl, rfl, by decide +kernel, rfl, by decide +kernel, by decide +kernel⟩
theorem ok_go (F : Fun K "go_to_step" "go_to_step" sGoToStep f fd) (CDue : C8.Cal P w K mg base 7 "due" (spDue K) []) (CPutBack : C8.Cal P w K mg base 1 "put_back" (spPutBack K) []) : FnOk P w K mg base CX0 8 f fd ["program", "part", "around"] (spGo K) := by
  refine F.ok scGoToStep (fun vs H Q E h => ?_) (fun cdv A outer s H vs Q E hr h => ?_)
  · obtain ⟨vp, v, la, fs, d, t, ys, cs, rfl, _⟩ := h
    rfl
  obtain ⟨vp, v, la, fs, d, t, ys, cs, rfl, hp, hok, hd, hla, har, hev, hg, hde, q⟩ := h
  refine ⟨_, (pss_one (ps_while PassesOwn.never (pt_truthK (K := K) rfl pe_bl (fun _ => rfl)) (pss_cons (ps_set (i := 3) scGoToStep.nd rfl (.inl rfl) (C8.pe_c CDue hr (by first | decide | omega) (by rfl) (pa_cons (pv 0) (pa_cons (pv 1) pa_nil))))
    (pss_one (ps_if (pt_cmpR op_eq (pe_ix (ix_tupK (K := K) rfl) (pv 3) pe_int (fun _ _ => rfl)) pe_str (nomark _)) (pss_cons (ps_expr (pe_bmK (K := K) rfl PySem.F.plainAttrs_list PySem.F.slot_list_append PySem.F.type_list_append mt_append (pv 2) (pa_cons (pe_tup (pa_cons (pv 1) (pa_cons (pe_ix (ix_tupK (K := K) rfl) (pv 3) pe_int (fun _ _ => rfl)) pa_nil))) pa_nil)))
    (pss_one (ps_set (i := 1) scGoToStep.nd rfl (.inl rfl) (pe_ix (ix_tupK (K := K) rfl) (pv 1) (pe_ix (ix_tupK (K := K) rfl) (pv 3) pe_int (fun _ _ => rfl)) (fun _ _ => rfl))))) (pss_one (ps_if (PW.pt (pw_and (pt_cmpR op_eq (pe_ix (ix_tupK (K := K) rfl) (pv 3) pe_int (fun _ _ => rfl)) pe_str (nomark _)) (pw_and1 (pt_truthK (K := K) rfl (pv 2) (fun _ => rfl))))) (pss_cons (ps_asg (pe_bm0K (K := K) rfl PySem.F.plainAttrs_list PySem.F.slot_list_pop PySem.F.type_list_pop mt_pop (pv 2)) (pg_tupK (K := K) (n := 2) rfl rfl (pgs_cons (pg_name (i := 4) scGoToStep.nd rfl (.inl rfl)) (pgs_cons (pg_name (i := 5) scGoToStep.nd rfl (.inl rfl)) pgs_nil))))
    (pss_one (ps_set (i := 1) scGoToStep.nd rfl (.inl rfl) (C8.pe_c CPutBack hr (by first | decide | omega) (by rfl) (pa_cons (pv 1) (pa_cons (pv 4) (pa_cons (pv 5) pa_nil))))))) (pss_one (ps_ret (pv 3)))))))))), ?_⟩
  obtain ⟨T, eT⟩ : ∃ T, wh cs t = T := ⟨_, rfl⟩
  rw [eT] at hg hde q
  let ms : Lz.P → List Ctxt → Nat := fun t cs => if wb fs t = true then T.deep + 1 + cs.length else t.deep
  have ms1 : ∀ {t : Lz.P} {cs : List Ctxt}, wb fs t = true → ms t cs = T.deep + 1 + cs.length := fun h => if_pos h
  have ms0 : ∀ {t : Lz.P} {cs : List Ctxt}, wb fs t = false → ms t cs = t.deep := fun h => if_neg (by rw [h]; simp)
  refine ⟨fun m σ H' => ∃ (v' : V) (v3 v4 v5 : Option V) (t' : Lz.P) (ys : List V) (cs : List Ctxt), σ = [some vp, some v', some (.ref la), v3, v4, v5] ∧ Kp [la] H H' ∧ H' la = some (.lst ys) ∧ Aro K H' ys cs ∧ Dp K H' v' t'.data ∧ (∀ c, c ∈ cs → Ev c) ∧ wh cs t' = T ∧ m = ms t' cs,
    ⟨_, v, none, none, none, t, ys, cs, rfl, Kp.refl _ _, hla, har, hd, hev, eT, rfl⟩, ?_⟩
  clear har hla hev hd
  rintro m σ H1 ⟨v', v3, v4, v5, t', ys, cs, rfl, k1, hla1, har, hd1, hev, hT, rfl⟩
  refine ⟨true, rfl, ?_⟩
  refine ite2 (fun _ => ?_) (fun c => absurd rfl c)
  have hevr : ∀ c, c ∈ cs.reverse → Ev c := fun c m => hev c (List.mem_reverse.mp m)
  have hg1 : Good fs t' := good_unplug _ hevr (show Good fs (wh cs t') from by rw [hT]; exact hg)
  have hdp := plug_deep _ hevr t'
  rw [show plugP cs.reverse t' = T from hT, List.length_reverse] at hdp
  have hf := hg1.fine
  refine ⟨fun σ' H' => ∃ m', m' < ms t' cs ∧ ∃ (v' : V) (v3 v4 v5 : Option V) (t' : Lz.P) (ys : List V) (cs : List Ctxt), σ' = [some vp, some v', some (.ref la), v3, v4, v5] ∧ Kp [la] H H' ∧ H' la = some (.lst ys) ∧ Aro K H' ys cs ∧ Dp K H' v' t'.data ∧ (∀ c, c ∈ cs → Ev c) ∧ wh cs t' = T ∧ m' = ms t' cs, fun σ' H' h => h, ?_⟩
  have hp1 := Dp.keep k1 _ _ (progU_fz _ _) hp
  have hyl := har.length
  cases hw : wb fs t' with
  | true =>
    refine ⟨_, rfl, _, rfl, vp, v', fs, d, t', _, rfl, hp1, hok, hd1, hf.ok, hf.nn, hf.mw, hf.lt, hf.nb, (fun _ => rfl), (fun c => by rw [hw] at c; cases c), fun vt H2 k2 hvt => ?_⟩
    have hd2 := Dp.keep k2 _ _ (data_fz _) hd1
    have hla2 := k2.lst hla1 (fun m => nomatch m)
    have har2 := Aro.keep k2 har
    have k12 := k1.trans (k2.mono (T := [la]) fun _ m => nomatch m)
    obtain ⟨pt, zs, rfl, hpt, hzs⟩ := Dp.tup_of (ds := [.str "worth", t'.data]) hvt
    obtain ⟨z1, r1, rfl, hz1, hz2⟩ := DpAll.unconsE hzs
    cases hz1
    refine ⟨_, rfl, pt, _, _, _, rfl, rfl, hpt, at_of (j := 0) rfl rfl, rfl, _, rfl, ?_⟩
    refine ite2 (fun c => absurd (V.str.inj (of_decide_eq_true c)) (by decide +kernel)) (fun _ => ?_)
    refine ⟨_, rfl, pt, _, _, _, rfl, rfl, hpt, at_of (j := 0) rfl rfl, rfl, _, rfl, ?_⟩
    refine ite2 (fun _ => ?_) (fun c => absurd (decide_eq_true rfl) c)
    refine ⟨_, rfl, !ys.isEmpty, .inl ⟨ys, SqL.of hla2, rfl⟩, ?_⟩
    rcases List.eq_nil_or_concat cs with e | ⟨ci, c, e⟩
    · subst e
      have ey : ys = [] := by
        cases ys with
        | nil => rfl
        | cons _ _ => exact (show False from har).elim
      subst ey
      refine ite2 (fun c => absurd c (by simp)) (fun _ => ?_)
      have hT' : t' = T := hT
      subst hT'
      rcases q with ⟨_, q⟩ | ⟨o, ho, _⟩
      · exact ⟨_, rfl, q _ H2 k12 hla2 hvt⟩
      · have := ho.wb
        rw [hw] at this
        cases this
    · rw [List.concat_eq_append] at e
      subst e
      obtain ⟨k, as, j⟩ := c
      obtain ⟨yi, v0, rfl, har4, za, po, rfl, hza, hdo⟩ := Aro.unsnoc har2
      have ev := hev _ (List.mem_append_right _ List.mem_cons_self)
      have hne : (!(yi ++ [V.ref za]).isEmpty) = true := by cases yi <;> rfl
      rw [hne]
      refine ite2 (fun _ => ?_) (fun c => absurd rfl c)
      refine ⟨_, rfl, .inl ⟨rfl, _, SqL.of hla2⟩, la, _, .ref za, rfl, rfl, hla2, ?_, ?_⟩
      · rw [List.length_append]
        show (yi ++ [V.ref za])[yi.length + 1 - 1]? = some (.ref za)
        rw [Nat.add_sub_cancel, List.getElem?_append_right (Nat.le_refl _), Nat.sub_self]
        rfl
      rw [List.dropLast_concat]
      have kp : Kp [la] H2 (upd H2 la (.lst yi)) := Kp.put hla2 List.mem_cons_self
      have k4 := k12.trans kp
      have hl4 : (upd H2 la (.lst yi)) la = some (.lst yi) := upd_same
      have hza4 := kp.sqT hza
      have har4 := Aro.keep kp har4
      have hdo4 := Dp.keep kp _ _ (data_fz _) hdo
      have hvt4 := Dp.keep kp _ _ (data_fz _) hd2
      generalize upd H2 la (.lst yi) = H4 at k4 hl4 hza4 har4 hdo4 hvt4 ⊢
      refine ⟨za, _, rfl, hza4, rfl, _, _, rfl, _, _, rfl, rfl, ?_⟩
      obtain ⟨p1, xs, e1, hop, hxs⟩ := op_atU hdo4
      obtain rfl := V.ref.inj e1
      have hxl : xs.length = as.length := by rw [hxs.length, datas_len]
      have hlt := ev.lt
      have hl1 : j < as.length := hlt.1
      have hl3 : as.length ≤ 3 := hlt.2.1
      refine ⟨_, rfl, _, rfl, _, rfl, v', po, k, xs, j, rfl, hop, by omega, by omega, fun cc H5 k5 hcc => ?_⟩
      have hset := DpAll.setP (Dp.keep k5 _ _ (data_fz _) hvt4) (j := j) (Dp.keepAll k5 _ _ (datas_fz _) hxs)
      have hT5 : wh ci (.op k (as.set j t')) = T := by rw [← wh_snoc]; exact hT
      have hev5 : ∀ c, c ∈ ci → Ev c := fun c m => hev c (List.mem_append_left _ m)
      refine ⟨_, ?_, .ref cc, _, _, _, .op k (as.set j t'), yi, ci, rfl, k4.trans (k5.mono fun _ m => nomatch m), k5.lst hl4 (fun m => nomatch m), Aro.keep k5 har4, .tup hcc (.cons (.str _) hset), hev5, hT5, rfl⟩
      rw [ms1 hw, List.length_append, List.length_singleton]
      cases hw5 : wb fs (.op k (as.set j t')) with
      | true => rw [ms1 hw5]; omega
      | false =>
        rw [ms0 hw5]
        have h5 := plug_deep ci.reverse (fun c m => hev5 c (List.mem_reverse.mp m)) (.op k (as.set j t'))
        rw [show plugP ci.reverse (.op k (as.set j t')) = T from hT5] at h5
        omega
  | false =>
    have hwT : wb fs T = false := by
      rw [← hT]
      exact plug_wb _ hevr hw
    rcases q with ⟨c, _⟩ | ⟨o, ho, q⟩
    · rw [hwT] at c
      cases c
    rw [← hT] at ho
    obtain ⟨oa, hst1, hpl⟩ := step_unplug _ hevr hw ho
    have hmw : ms t' cs = t'.deep := ms0 hw
    cases hst1 with
    | @here _ u x hw hdue =>
      obtain ⟨w1, w2, w3⟩ := due_word hdue
      refine ⟨_, rfl, _, rfl, vp, v', fs, d, t', _, rfl, hp1, hok, hd1, hf.ok, hf.nn, hf.mw, hf.lt, hf.nb, (fun c => by rw [hw] at c; cases c), (fun _ => hdue), fun vt H2 k2 hvt => ?_⟩
      obtain ⟨pt, zs, rfl, hpt, hzs⟩ := Dp.tup_of (ds := [.str x, u.data]) hvt
      obtain ⟨z1, r1, rfl, hz1, hz2⟩ := DpAll.unconsE hzs
      cases hz1
      refine ⟨_, rfl, pt, _, _, _, rfl, rfl, hpt, at_of (j := 0) rfl rfl, rfl, _, rfl, ?_⟩
      refine ite2 (fun c => absurd (V.str.inj (of_decide_eq_true c)) w1) (fun _ => ?_)
      refine ⟨_, rfl, pt, _, _, _, rfl, rfl, hpt, at_of (j := 0) rfl rfl, rfl, _, rfl, ?_⟩
      refine ite2 (fun c => absurd (V.str.inj (of_decide_eq_true c)) w2) (fun _ => ?_)
      refine ite2 (fun c => absurd c (by simp)) (fun _ => ?_)
      exact ⟨_, rfl, q _ ys cs _ H2 (k1.trans (k2.mono fun _ m => nomatch m)) (k2.lst hla1 (fun m => nomatch m)) (Aro.keep k2 har) hev hpl.symm (.inr ⟨x, u, rfl, w3, w2⟩) hvt⟩
    | @fault _ x hw hdue =>
      refine ⟨_, rfl, _, rfl, vp, v', fs, d, t', _, rfl, hp1, hok, hd1, hf.ok, hf.nn, hf.mw, hf.lt, hf.nb, (fun c => by rw [hw] at c; cases c), (fun _ => hdue), fun vt H2 k2 hvt => ?_⟩
      obtain ⟨pt, zs, rfl, hpt, hzs⟩ := Dp.tup_of (ds := [.str "fault", .str x]) hvt
      obtain ⟨z1, r1, rfl, hz1, hz2⟩ := DpAll.unconsE hzs
      cases hz1
      refine ⟨_, rfl, pt, _, _, _, rfl, rfl, hpt, at_of (j := 0) rfl rfl, rfl, _, rfl, ?_⟩
      refine ite2 (fun c => absurd (V.str.inj (of_decide_eq_true c)) (by decide +kernel)) (fun _ => ?_)
      refine ⟨_, rfl, pt, _, _, _, rfl, rfl, hpt, at_of (j := 0) rfl rfl, rfl, _, rfl, ?_⟩
      refine ite2 (fun c => absurd (V.str.inj (of_decide_eq_true c)) (by decide +kernel)) (fun _ => ?_)
      refine ite2 (fun c => absurd c (by simp)) (fun _ => ?_)
      exact ⟨_, rfl, q _ ys cs _ H2 (k1.trans (k2.mono fun _ m => nomatch m)) (k2.lst hla1 (fun m => nomatch m)) (Aro.keep k2 har) hev hpl.symm (.inl ⟨x, rfl⟩) hvt⟩
    | @inn k as a j o2 hw hdue hja hst2 =>
      obtain ⟨k', as', j', a', e, e2, ev, hja', hwa⟩ := due_ev hdue
      cases e
      cases e2
      have hjm := List.mem_of_getElem? hja
      obtain rfl : a = a' := Option.some.inj (hja.symm.trans hja')
      have hjl : j < as.length := ev.lt.1
      have h3 : as.length ≤ 3 := ev.lt.2.1
      refine ⟨_, rfl, _, rfl, vp, v', fs, d, _, _, rfl, hp1, hok, hd1, hf.ok, hf.nn, hf.mw, hf.lt, hf.nb, (fun c => by rw [hw] at c; cases c), (fun _ => hdue), fun vt H2 k2 hvt => ?_⟩
      obtain ⟨pt, zs, rfl, hpt, hzs⟩ := Dp.tup_of (ds := [.str "within", .int ((j + 1 : Nat) : Int)]) hvt
      obtain ⟨z1, r1, rfl, hz1, hz2⟩ := DpAll.unconsE hzs
      cases hz1
      obtain ⟨z2, r2, rfl, hz2, hz3⟩ := DpAll.unconsE hz2
      cases hz2
      cases hz3
      refine ⟨_, rfl, pt, _, _, _, rfl, rfl, hpt, at_of (j := 0) rfl rfl, rfl, _, rfl, ?_⟩
      refine ite2 (fun _ => ?_) (fun c => absurd (decide_eq_true rfl) c)
      have hd2 := Dp.keep k2 _ _ (data_fz _) hd1
      obtain ⟨po, xs, rfl, hpo, hxs⟩ := op_atU hd2
      have hla2 := k2.lst hla1 (fun m => nomatch m)
      have har2 := Aro.keep k2 har
      have hdd : a.deep + 1 ≤ (Lz.P.op k as).deep := inn_deep (t := .op k as) hjm
      refine ⟨_, rfl, .inl ⟨rfl, _, SqL.of hla2⟩, _, rfl, _, rfl, pt, _, _, _, rfl, rfl, hpt, at_of (j := 1) rfl rfl, (by show 2 ≤ sizeLine; decide), fun Tn hTn => ?_⟩
      have kx : Kp [] H2 (upd H2 Tn (.tup [.ref po, .int ((j + 1 : Nat) : Int)])) := Kp.new hTn
      have hT3 : SqT K (upd H2 Tn (.tup [.ref po, .int ((j + 1 : Nat) : Int)])) Tn [.ref po, .int ((j + 1 : Nat) : Int)] := SqT.of upd_same
      have hla3 := kx.lst hla2 (fun m => nomatch m)
      have har3 := Aro.keep kx har2
      have hd3 := Dp.keep kx _ _ (data_fz _) hd2
      have hpo3 := kx.sqT hpo
      have hpt3 := kx.sqT hpt
      have hxs3 := Dp.keepAll kx _ _ (datas_fz _) hxs
      have k3 := k2.trans kx
      generalize upd H2 Tn (.tup [.ref po, .int ((j + 1 : Nat) : Int)]) = H3 at hT3 hla3 har3 hd3 hpo3 hpt3 hxs3 k3 ⊢
      refine ⟨la, _, _, rfl, rfl, hla3, small60000 (by omega), ?_⟩
      have kp : Kp [la] H3 (upd H3 la (.lst (ys ++ [.ref Tn]))) := Kp.put hla3 List.mem_cons_self
      have har4 := Aro.snoc (c := (k, as, j)) ⟨Tn, po, rfl, kp.sqT hT3, Dp.keep kp _ _ (data_fz _) hd3⟩ (Aro.keep kp har3)
      obtain ⟨vj, hvj⟩ : ∃ vj, xs[j]? = some vj := ⟨_, List.getElem?_eq_getElem (by rw [hxs.length, datas_len]; exact hjl)⟩
      obtain ⟨a', ha', hdj⟩ := part_atU hxs3 hvj
      obtain rfl : a = a' := Option.some.inj (hja.symm.trans ha')
      refine ⟨_, rfl, _, rfl, pt, _, _, _, rfl, rfl, kp.sqT hpt3, at_of (j := 1) rfl rfl, po, _, _, _, rfl, rfl, kp.sqT hpo3, at_of (j := j + 1) rfl (by rw [List.getElem?_cons_succ]; exact hvj), ?_⟩
      refine ⟨_, ?_, vj, _, _, _, a, ys ++ [.ref Tn], cs ++ [(k, as, j)], rfl, (k1.trans (k3.mono fun _ m => nomatch m)).trans kp, upd_same, har4, Dp.keep kp _ _ (data_fz _) hdj, fun c m => ?_, ?_, rfl⟩
      · rw [hmw, ms0 hwa]
        exact hdd
      · rcases List.mem_append.mp m with m | m
        · exact hev c m
        · rw [List.mem_singleton.mp m]
          exact ev
      · rw [wh_snoc]
        have es : as.set j a = as := by
          obtain ⟨h1, h2⟩ := List.getElem?_eq_some_iff.mp hja
          rw [← h2, List.set_getElem_self]
        rw [es]
        exact hT
end
end Lz

set_option Elab.async false
set_option linter.all false
set_option maxRecDepth 100000
set_option maxHeartbeats 8000000
namespace Lz
open PySem PySem.Spec PyProof.Rows L2
theorem Kp.via {H H1 H2 : Hp} {la : Addr} (k1 : Kp [] H H1) (k2 : Kp [la] H1 H2) (h : H la = none) : Kp [] H H2 := fun b x e n => k2 b x (k1 b x e n) fun m => by
  rw [List.mem_singleton.mp m, h] at e
  cases e
def Rs.data : Rs → PyData
  | .w t => .tuple [.str "worth", t.data]
  | .f x => .tuple [.str "fault", .str x]
  | .more => .tuple [.str "more"]
theorem Rs.fz : ∀ r : Rs, fz r.data = true
  | .w t => by
    show (true && (Lz.fz t.data && true)) = true
    rw [data_fz]
    rfl
  | .f x => rfl
  | .more => rfl
def spComeTo (K : PySem.W.Frag) : Sp := fun vs H Q _ => ∃ (vp v : V) (most : Nat) (fs : List Fn) (d t : Lz.P) (ws : List Str) (r : Rs), vs = [vp, v, .int (most : Nat)] ∧ most ≤ 400 ∧ Dp K H vp (progD fs d) ∧ PrS fs d ∧ Pr10 fs d 60 12 ∧ Dp K H v t.data ∧ Ok10 fs 60 12 t ∧ Cm fs d most 0 t ws r ∧ t.mw + 121 * (most + 1) ≤ 60000 ∧ t.deep + 12 * (most + 1) ≤ 30000 ∧
  ∀ (pa : Addr) (vc : V) (lw : Addr) (H' : Hp), Kp [] H H' → H lw = none → SqT K H' pa [vc, .ref lw] → Dp K H' vc r.data → H' lw = some (.lst (ws.map V.str)) → Q (.ref pa) H'
section
variable {P : Program} {w : World} {K : PySem.W.Frag} {mg : Str → Option Value} {base : Heap} {f : Addr} {fd : FuncData}
abbrev sComeTo : Stmt := topS 31
theorem scComeTo : FnScope ["program", "part", "most", "words", "around", "come"] ["program", "part", "most"] (defScope sComeTo) := ⟨rfl, rfl, rfl, by decide +kernel, rfl, by decide +kernel, by decide +kernel⟩
theorem ok_comeTo (F : Fun K "come_to" "come_to" sComeTo f fd) (B : Bt mg) (CGoToStep : C8.Cal P w K mg base 8 "go_to_step" (spGo K) []) : FnOk P w K mg base CX0 9 f fd ["program", "part", "most"] (spComeTo K) := by
  have ml := B.len
  refine F.ok scComeTo (fun vs H Q E h => ?_) (fun cdv A outer s H vs Q E hr h => ?_)
  · obtain ⟨vp, v, most, fs, d, t, ws, r, rfl, _⟩ := h
    rfl
  obtain ⟨vp, v, most, fs, d, t, ws, r, rfl, hm4, hp, hok, hpr, hd, hto, hcm, hmw, hde, q⟩ := h
  refine ⟨_, (pss_cons (ps_set (i := 3) scComeTo.nd rfl (.inl rfl) (pe_lst pa_nil))
    (pss_cons (ps_set (i := 4) scComeTo.nd rfl (.inl rfl) (pe_lst pa_nil))
    (pss_one (ps_while PassesOwn.never (pt_truthK (K := K) rfl pe_bl (fun _ => rfl)) (pss_cons (ps_set (i := 5) scComeTo.nd rfl (.inl rfl) (C8.pe_c CGoToStep hr (by first | decide | omega) (by rfl) (pa_cons (pv 0) (pa_cons (pv 1) (pa_cons (pv 4) pa_nil)))))
    (pss_cons (ps_if (pt_cmpR (op_inK (K := K) rfl) (pe_ix (ix_tupK (K := K) rfl) (pv 5) pe_int (fun _ _ => rfl)) (pe_tup (pa_cons pe_str (pa_cons pe_str pa_nil))) rfl) (pss_one (ps_ret (pe_tup (pa_cons (pv 5) (pa_cons (pv 3) pa_nil))))) pss_nil)
    (pss_cons (ps_if (pt_cmpR op_ge (pe_callB (call_lenK (K := K) rfl) (by rfl) ml PySem.boot_len (pa_cons (pv 3) pa_nil)) (pv 2) (nomark _)) (pss_one (ps_ret (pe_tup (pa_cons (pe_tup (pa_cons pe_str pa_nil)) (pa_cons (pv 3) pa_nil))))) pss_nil)
    (pss_cons (ps_expr (pe_bmK (K := K) rfl PySem.F.plainAttrs_list PySem.F.slot_list_append PySem.F.type_list_append mt_append (pv 3) (pa_cons (pe_ix (ix_tupK (K := K) rfl) (pv 5) pe_int (fun _ _ => rfl)) pa_nil)))
    (pss_one (ps_set (i := 1) scComeTo.nd rfl (.inl rfl) (pe_ix (ix_tupK (K := K) rfl) (pv 5) pe_int (fun _ _ => rfl)))))))))))), ?_⟩
  refine ⟨Nat.zero_le _, fun lw hlw => ?_⟩
  have k1 : Kp [] H (upd H lw (.lst [])) := Kp.new hlw
  have hw1 : (upd H lw (.lst [])) lw = some (.lst []) := upd_same
  have hd1 := Dp.keep k1 _ _ (data_fz _) hd
  generalize upd H lw (.lst []) = H1 at k1 hw1 hd1 ⊢
  refine ⟨Nat.zero_le _, fun la hla => ?_⟩
  have nla : lw ≠ la := fun e => by rw [← e, hw1] at hla; cases hla
  have hla0 : H la = none := by
    cases e : H la with
    | none => rfl
    | some o => rw [k1 _ _ e (fun m => nomatch m)] at hla; cases hla
  have k2 : Kp [] H1 (upd H1 la (.lst [])) := Kp.new hla
  have hw2 : (upd H1 la (.lst [])) lw = some (.lst []) := by rw [upd_ne nla]; exact hw1
  have hl2 : (upd H1 la (.lst [])) la = some (.lst []) := upd_same
  have hd2 := Dp.keep k2 _ _ (data_fz _) hd1
  have k2 := k1.trans k2
  generalize upd H1 la (.lst []) = H2 at k2 hw2 hl2 hd2 ⊢
  clear k1 hw1 hd1
  refine ⟨fun m σ H' => ∃ (v' : V) (v5 : Option V) (t' : Lz.P) (ys : List V) (cs : List Ctxt) (w0 ws' : List Str), σ = [some vp, some v', some (.int (most : Nat)), some (.ref lw), some (.ref la), v5] ∧ Kp [] H H' ∧ H' lw = some (.lst (w0.map V.str)) ∧ H' la = some (.lst ys) ∧ Aro K H' ys cs ∧ Dp K H' v' t'.data ∧ (∀ c, c ∈ cs → Ev c) ∧ Cm fs d most w0.length (wh cs t') ws' r ∧ w0 ++ ws' = ws ∧ Ok10 fs 60 12 (wh cs t') ∧ w0.length ≤ most ∧ (wh cs t').mw + 121 * (most + 1 - w0.length) ≤ 60000 ∧ (wh cs t').deep + 12 * (most + 1 - w0.length) ≤ 30000 ∧ m = ws'.length,
    ⟨_, v, none, t, [], [], [], ws, rfl, k2, hw2, hl2, True.intro, hd2, (fun _ m => nomatch m), hcm, rfl, hto, Nat.zero_le _, hmw, hde, rfl⟩, ?_⟩
  clear k2 hw2 hl2 hd2 hcm hto hmw hde
  rintro m σ H3 ⟨v', v5, t', ys, cs, w0, ws', rfl, k3, hw3, hl3, har, hdt, hev, hcm, hws, hto, hw0, hmw, hde, rfl⟩
  refine ⟨true, rfl, ?_⟩
  refine ite2 (fun _ => ?_) (fun c => absurd rfl c)
  refine ⟨fun σ' H' => ∃ m', m' < ws'.length ∧ ∃ (v' : V) (v5 : Option V) (t' : Lz.P) (ys : List V) (cs : List Ctxt) (w0 ws' : List Str), σ' = [some vp, some v', some (.int (most : Nat)), some (.ref lw), some (.ref la), v5] ∧ Kp [] H H' ∧ H' lw = some (.lst (w0.map V.str)) ∧ H' la = some (.lst ys) ∧ Aro K H' ys cs ∧ Dp K H' v' t'.data ∧ (∀ c, c ∈ cs → Ev c) ∧ Cm fs d most w0.length (wh cs t') ws' r ∧ w0 ++ ws' = ws ∧ Ok10 fs 60 12 (wh cs t') ∧ w0.length ≤ most ∧ (wh cs t').mw + 121 * (most + 1 - w0.length) ≤ 60000 ∧ (wh cs t').deep + 12 * (most + 1 - w0.length) ≤ 30000 ∧ m' = ws'.length, fun σ' H' h => h, ?_⟩
  have hp3 := Dp.keep k3 _ _ (progU_fz _ _) hp
  have hgood : Good fs (wh cs t') := hto.good (by omega) (by decide)
  have hnw : ¬ lw ∈ [la] := not1 nla
  have hwl : (w0.map V.str).length = w0.length := List.length_map ..
  refine ⟨_, rfl, _, rfl, _, rfl, vp, v', la, fs, d, t', ys, cs, rfl, hp3, hok, hdt, hl3, har, hev, hgood, by omega, ?_⟩
  -- a worth or a fault
  have fin : ∀ (x : Str) (vt : V) (H4 : Hp) (pt : Addr) (zs : List V), ws' = [] → Kp [la] H3 H4 → SqT K H4 pt (.str x :: zs) → Dp K H4 (.ref pt) r.data → ∀ (T1 : Addr), H4 T1 = none → Q (.ref T1) (upd H4 T1 (.tup [.ref pt, .ref lw])) := fun x vt H4 pt zs hw' k4 hpt hdr T1 hT1 => by
    have kx : Kp [] H4 (upd H4 T1 (.tup [.ref pt, .ref lw])) := Kp.new hT1
    subst hw'
    rw [List.append_nil] at hws
    subst hws
    exact q T1 _ lw _ ((k3.via k4 hla0).trans kx) hlw (SqT.of upd_same) (Dp.keep kx _ _ (Rs.fz _) hdr) (kx.lst (k4.lst hw3 hnw) (fun m => nomatch m))
  cases hcm with
  | w hwb =>
    refine .inl ⟨hwb, fun vt H4 k4 hl4 hvt => ?_⟩
    obtain ⟨pt, zs, rfl, hpt, hzs⟩ := Dp.tup_of (ds := [.str "worth", (wh cs t').data]) hvt
    obtain ⟨z1, r1, rfl, hz1, hz2⟩ := DpAll.unconsE hzs
    cases hz1
    refine ⟨_, rfl, pt, _, _, _, rfl, rfl, hpt, at_of (j := 0) rfl rfl, (by show 2 ≤ sizeLine; decide), fun T0 hT0 => ?_⟩
    have kx : Kp [] H4 (upd H4 T0 (.tup [.str "worth", .str "fault"])) := Kp.new hT0
    refine ⟨T0, _, rfl, .inr (SqT.of upd_same), rfl, rfl, _, rfl, ?_⟩
    rw [in2U]
    refine ite2 (fun _ => ?_) (fun c => absurd (by simp) c)
    refine ⟨_, rfl, _, rfl, (by show 2 ≤ sizeLine; decide), fun T1 hT1 => ?_⟩
    exact fin "worth" (.ref pt) _ pt _ rfl (k4.trans (kx.mono fun _ m => nomatch m)) (kx.sqT hpt) (Dp.keep kx _ _ (Rs.fz (.w _)) hvt) T1 hT1
  | @f _ _ x hst =>
    refine .inr ⟨_, hst, fun vt ys' cs' o' H4 k4 hl4 har4 hev4 hpl ho hvt => ?_⟩
    obtain ⟨rfl⟩ : o' = .f x := by
      rcases ho with ⟨y, rfl⟩ | ⟨y, u, rfl, _⟩
      · rw [plug_f] at hpl
        exact hpl
      · rw [plug_s] at hpl
        cases hpl
    obtain ⟨pt, zs, rfl, hpt, hzs⟩ := Dp.tup_of (ds := [.str "fault", .str x]) hvt
    obtain ⟨z1, r1, rfl, hz1, hz2⟩ := DpAll.unconsE hzs
    cases hz1
    refine ⟨_, rfl, pt, _, _, _, rfl, rfl, hpt, at_of (j := 0) rfl rfl, (by show 2 ≤ sizeLine; decide), fun T0 hT0 => ?_⟩
    have kx : Kp [] H4 (upd H4 T0 (.tup [.str "worth", .str "fault"])) := Kp.new hT0
    refine ⟨T0, _, rfl, .inr (SqT.of upd_same), rfl, rfl, _, rfl, ?_⟩
    rw [in2U]
    refine ite2 (fun _ => ?_) (fun c => absurd (by simp) c)
    refine ⟨_, rfl, _, rfl, (by show 2 ≤ sizeLine; decide), fun T1 hT1 => ?_⟩
    exact fin "fault" (.ref pt) _ pt _ rfl (k4.trans (kx.mono fun _ m => nomatch m)) (kx.sqT hpt) (Dp.keep kx _ _ (Rs.fz (.f x)) hvt) T1 hT1
  | @more _ _ u x hst hmo =>
    refine .inr ⟨_, hst, fun vt ys' cs' o' H4 k4 hl4 har4 hev4 hpl ho hvt => ?_⟩
    obtain ⟨u', rfl, hu', hx1, hx2⟩ : ∃ u', o' = .s x u' ∧ wh cs' u' = u ∧ x ≠ "fault" ∧ x ≠ "worth" := by
      rcases ho with ⟨y, rfl⟩ | ⟨y, u', rfl, h1, h2⟩
      · rw [plug_f] at hpl
        cases hpl
      · rw [plug_s] at hpl
        cases hpl
        exact ⟨u', rfl, rfl, h1, h2⟩
    obtain ⟨pt, zs, rfl, hpt, hzs⟩ := Dp.tup_of (ds := [.str x, u'.data]) hvt
    obtain ⟨z1, r1, rfl, hz1, hz2⟩ := DpAll.unconsE hzs
    cases hz1
    refine ⟨_, rfl, pt, _, _, _, rfl, rfl, hpt, at_of (j := 0) rfl rfl, (by show 2 ≤ sizeLine; decide), fun T0 hT0 => ?_⟩
    have kx : Kp [] H4 (upd H4 T0 (.tup [.str "worth", .str "fault"])) := Kp.new hT0
    refine ⟨T0, _, rfl, .inr (SqT.of upd_same), rfl, rfl, _, rfl, ?_⟩
    rw [in2U]
    refine ite2 (fun c => absurd c (by simp [hx1, hx2])) (fun _ => ?_)
    have hw5 := kx.lst (k4.lst hw3 hnw) (fun m => nomatch m)
    refine ⟨_, rfl, lw, _, rfl, .inl (SqL.of hw5), _, rfl, _, _, rfl, rfl, _, rfl, ?_⟩
    rw [hwl]
    refine ite2 (fun _ => ?_) (fun c => absurd (decide_eq_true (by omega)) c)
    refine ⟨(by show 1 ≤ sizeLine; decide), fun T1 hT1 => ?_⟩
    have ky : Kp [] (upd H4 T0 (.tup [.str "worth", .str "fault"])) (upd (upd H4 T0 (.tup [.str "worth", .str "fault"])) T1 (.tup [.str "more"])) := Kp.new hT1
    refine ⟨_, rfl, (by show 2 ≤ sizeLine; decide), fun T2 hT2 => ?_⟩
    exact fin "more" (.ref T1) _ T1 [] rfl (k4.trans ((kx.trans ky).mono fun _ m => nomatch m)) (SqT.of upd_same) (Dp.newT hT1 (.cons (.str _) .nil) rfl) T2 hT2
  | @s _ _ u x ws2 _ hst hlt hcm2 =>
    refine .inr ⟨_, hst, fun vt ys' cs' o' H4 k4 hl4 har4 hev4 hpl ho hvt => ?_⟩
    obtain ⟨u', rfl, hu', hx1, hx2⟩ : ∃ u', o' = .s x u' ∧ wh cs' u' = u ∧ x ≠ "fault" ∧ x ≠ "worth" := by
      rcases ho with ⟨y, rfl⟩ | ⟨y, u', rfl, h1, h2⟩
      · rw [plug_f] at hpl
        cases hpl
      · rw [plug_s] at hpl
        cases hpl
        exact ⟨u', rfl, rfl, h1, h2⟩
    obtain ⟨pt, zs, rfl, hpt, hzs⟩ := Dp.tup_of (ds := [.str x, u'.data]) hvt
    obtain ⟨z1, r1, rfl, hz1, hz2⟩ := DpAll.unconsE hzs
    obtain ⟨z2, r2, rfl, hzd, hz3⟩ := DpAll.unconsE hz2
    cases hz1
    cases hz3
    refine ⟨_, rfl, pt, _, _, _, rfl, rfl, hpt, at_of (j := 0) rfl rfl, (by show 2 ≤ sizeLine; decide), fun T0 hT0 => ?_⟩
    have kx : Kp [] H4 (upd H4 T0 (.tup [.str "worth", .str "fault"])) := Kp.new hT0
    refine ⟨T0, _, rfl, .inr (SqT.of upd_same), rfl, rfl, _, rfl, ?_⟩
    rw [in2U]
    refine ite2 (fun c => absurd c (by simp [hx1, hx2])) (fun _ => ?_)
    have hw5 := kx.lst (k4.lst hw3 hnw) (fun m => nomatch m)
    have hl5 := kx.lst hl4 (fun m => nomatch m)
    have har5 := Aro.keep kx har4
    have hdu5 := Dp.keep kx _ _ (data_fz _) hzd
    have hpt5 := kx.sqT hpt
    have k5 := (k3.via k4 hla0).trans kx
    generalize upd H4 T0 (.tup [.str "worth", .str "fault"]) = H5 at hw5 hl5 har5 hdu5 hpt5 k5 ⊢
    refine ⟨_, rfl, lw, _, rfl, .inl (SqL.of hw5), _, rfl, _, _, rfl, rfl, _, rfl, ?_⟩
    rw [hwl]
    refine ite2 (fun c => absurd (of_decide_eq_true c) (by omega)) (fun _ => ?_)
    refine ⟨_, rfl, .inl ⟨rfl, _, SqL.of hw5⟩, _, rfl, pt, _, _, _, rfl, rfl, hpt5, at_of (j := 0) rfl rfl, lw, _, _, rfl, rfl, hw5, small60000 (by omega), ?_⟩
    have kp : Kp [lw] H5 (upd H5 lw (.lst (w0.map V.str ++ [.str x]))) := Kp.put hw5 List.mem_cons_self
    refine ⟨_, rfl, pt, _, _, _, rfl, rfl, kp.sqT hpt5, at_of (j := 1) rfl rfl, ?_⟩
    obtain ⟨g1, g2, g3⟩ := stepR_ok hpr hst rfl hto
    have hlen : (w0 ++ [x]).length = w0.length + 1 := by rw [List.length_append]; rfl
    refine ⟨ws2.length, Nat.lt_succ_self _, z2, _, u', ys', cs', w0 ++ [x], ws2, rfl, k5.mut hlw, by rw [List.map_append]; exact upd_same, by rw [upd_ne nla.symm]; exact hl5, Aro.keep kp har5, Dp.keep kp _ _ (data_fz _) hdu5, hev4, ?_, by rw [← hws, List.append_assoc]; rfl, by rw [hu']; exact g1, by omega, ?_, ?_, rfl⟩
    · rw [hlen, hu']
      exact hcm2
    · rw [hu', hlen]
      omega
    · rw [hu', hlen]
      omega
end
end Lz

set_option Elab.async false
set_option linter.all false
set_option autoImplicit false
set_option maxRecDepth 100000
set_option maxHeartbeats 4000000
/-! The law's own putting in, by parts that go with their names: plain Lean. -/
namespace Lz
open PySem PySem.Spec PyProof.Rows L2
/-! ### putting in twice -/
section
variable {t1 t2 t3 : List (Str × P)}
mutual
theorem put_put (h : ∀ x, getT t3 x = (getT t1 x).or (getT t2 x)) : ∀ (t : P), P.put t2 (P.put t1 t) = P.put t3 t
  | .num _ => rfl
  | .fn _ => rfl
  | .nam x => by
    have hx := h x
    cases e : getT t1 x with
    | some p =>
      rw [e] at hx
      rw [put_name e, put_name hx]
      show P.op "shut" (if ("shut" : Str) = "shut" then [p] else _) = _
      rw [if_pos rfl]
    | none =>
      rw [e, Option.none_or] at hx
      rw [put_name0 e]
      cases e2 : getT t2 x with
      | some p => rw [put_name e2, put_name (hx.trans e2)]
      | none => rw [put_name0 e2, put_name0 (hx.trans e2)]
  | .op k as => by
    show P.op k (if k = "shut" then (if k = "shut" then as else P.puts t1 as) else P.puts t2 (if k = "shut" then as else P.puts t1 as)) = P.op k (if k = "shut" then as else P.puts t3 as)
    by_cases e : k = "shut"
    · rw [if_pos e, if_pos e, if_pos e]
    · rw [if_neg e, if_neg e, if_neg e, puts_puts h as]
  | .lt nm as b => by
    show P.lt nm (P.puts t2 (P.puts t1 as)) (P.put t2 (P.put t1 b)) = P.lt nm (P.puts t3 as) (P.put t3 b)
    rw [puts_puts h as, put_put h b]
theorem puts_puts (h : ∀ x, getT t3 x = (getT t1 x).or (getT t2 x)) : ∀ (as : List P), P.puts t2 (P.puts t1 as) = P.puts t3 as
  | [] => rfl
  | a :: as => by
    show P.put t2 (P.put t1 a) :: P.puts t2 (P.puts t1 as) = P.put t3 a :: P.puts t3 as
    rw [put_put h a, puts_puts h as]
end
end
theorem getT_mergeOr (x : Str) : ∀ (r th : List (Str × P)), getT (mergeT th r) x = (getT (mergeT [] r) x).or (getT th x)
  | [], th => rfl
  | q :: r, th => by
    show getT (mergeT (putT th q.1 q.2) r) x = (getT (mergeT (putT [] q.1 q.2) r) x).or (getT th x)
    rw [getT_mergeOr x r (putT th q.1 q.2), getT_mergeOr x r (putT [] q.1 q.2), getT_put, getT_put, Option.or_assoc]
    by_cases e : x = q.1
    · rw [if_pos e, if_pos e, Option.some_or]
    · rw [if_neg e, if_neg e]
      rfl
theorem getT_mergeIn {x : Str} : ∀ {r th : List (Str × P)}, getT th x = none → x ∉ r.map (·.1) → getT (mergeT th r) x = none
  | [], th, h, _ => h
  | q :: r, th, h, m => by
    refine getT_mergeIn (r := r) ?_ (fun n => m (List.mem_cons_of_mem _ n))
    rw [getT_put, if_neg (fun e => m (by rw [e]; exact List.mem_cons_self))]
    exact h
theorem merge_put {th r : List (Str × P)} (h : ∀ x, x ∈ r.map (·.1) → getT th x = none) (t : P) : P.put (mergeT [] r) (P.put th t) = P.put (mergeT th r) t := by
  refine put_put (fun x => ?_) t
  rw [getT_mergeOr]
  by_cases m : x ∈ r.map (·.1)
  · rw [h x m, Option.or_none, Option.none_or]
  · rw [getT_mergeIn (r := r) (th := []) rfl m, Option.none_or, Option.or_none]
/-! ### what the names go with -/
/-- a part, the number of what its names go with, whether it is a let's row -/
abbrev Ent := P × Nat × Bool
abbrev Env := List (Str × Ent)
def lookE (E : Env) (x : Str) : Option Ent := (E.find? fun e => decide (e.1 = x)).map (·.2)
def putE (E : Env) (x : Str) (v : Ent) : Env :=
  if (E.any fun q => decide (q.1 = x)) = true then E.map (fun q => if q.1 = x then (q.1, v) else q) else E ++ [(x, v)]
def mergeE (E : Env) : List (Str × Ent) → Env
  | [] => E
  | q :: r => mergeE (putE E q.1 q.2) r
theorem lookE_pos {q : Str × Ent} {r : Env} {y : Str} (e : q.1 = y) : lookE (q :: r) y = some q.2 := by
  unfold lookE
  rw [List.find?_cons, decide_eq_true e]
  rfl
theorem lookE_neg {q : Str × Ent} {r : Env} {y : Str} (e : ¬ q.1 = y) : lookE (q :: r) y = lookE r y := by
  unfold lookE
  rw [List.find?_cons, decide_eq_false e]
theorem lookE_map (x y : Str) (p : Ent) : ∀ th : Env, lookE (th.map fun q => if q.1 = x then (q.1, p) else q) y = if y = x then (if (th.any fun q => decide (q.1 = x)) = true then some p else none) else lookE th y
  | [] => by
    by_cases e : y = x
    · rw [if_pos e]; rfl
    · rw [if_neg e]; rfl
  | q :: r => by
    have ih := lookE_map x y p r
    rw [List.map_cons, List.any_cons]
    by_cases c : q.1 = x
    · rw [if_pos c, decide_eq_true c, Bool.true_or, if_pos rfl]
      by_cases e : y = x
      · rw [if_pos e, lookE_pos (show (q.1, p).1 = y from c.trans e.symm)]
      · rw [if_neg e, lookE_neg (show ¬ (q.1, p).1 = y from fun z => e (z.symm.trans c)), lookE_neg (show ¬ q.1 = y from fun z => e (z.symm.trans c)), ih, if_neg e]
    · rw [if_neg c, decide_eq_false c, Bool.false_or]
      by_cases d : q.1 = y
      · have e : ¬ y = x := fun z => c (d.trans z)
        rw [if_neg e, lookE_pos d, lookE_pos d]
      · rw [lookE_neg d, lookE_neg d]
        exact ih
theorem lookE_append (x y : Str) (p : Ent) : ∀ th : Env, lookE (th ++ [(x, p)]) y = match lookE th y with | some q => some q | none => if y = x then some p else none
  | [] => by
    show lookE [(x, p)] y = if y = x then some p else none
    by_cases e : y = x
    · rw [if_pos e, lookE_pos (show (x, p).1 = y from e.symm)]
    · rw [if_neg e, lookE_neg (show ¬ (x, p).1 = y from fun z => e z.symm)]
      rfl
  | q :: r => by
    rw [List.cons_append]
    by_cases d : q.1 = y
    · rw [lookE_pos d, lookE_pos d]
    · rw [lookE_neg d, lookE_neg d]
      exact lookE_append x y p r
theorem lookE_none {x : Str} : ∀ {th : Env}, ¬ (th.any fun q => decide (q.1 = x)) = true → lookE th x = none
  | [], _ => rfl
  | q :: r, h => by
    rw [List.any_cons] at h
    have c : ¬ q.1 = x := fun e => h (by rw [decide_eq_true e]; rfl)
    rw [lookE_neg c]
    exact lookE_none fun e => h (by rw [e, Bool.or_true])
theorem lookE_put (th : Env) (x y : Str) (p : Ent) : lookE (putE th x p) y = if y = x then some p else lookE th y := by
  unfold putE
  by_cases c : (th.any fun q => decide (q.1 = x)) = true
  · rw [if_pos c, lookE_map]
    by_cases e : y = x
    · rw [if_pos e, if_pos e, if_pos c]
    · rw [if_neg e, if_neg e]
  · rw [if_neg c, lookE_append]
    by_cases e : y = x
    · subst e
      rw [lookE_none c, if_pos rfl]
    · rw [if_neg e, if_neg e]
      cases lookE th y <;> rfl
theorem putE_len (E : Env) (x : Str) (v : Ent) : (putE E x v).length ≤ E.length + 1 := by
  unfold putE
  split
  · rw [List.length_map]; omega
  · rw [List.length_append]; exact Nat.le_refl _
theorem mergeE_len : ∀ (r : List (Str × Ent)) (E : Env), (mergeE E r).length ≤ E.length + r.length
  | [], E => Nat.le_refl _
  | q :: r, E => by
    have h1 := mergeE_len r (putE E q.1 q.2)
    have h2 := putE_len E q.1 q.2
    show (mergeE (putE E q.1 q.2) r).length ≤ E.length + (r.length + 1)
    omega
theorem mergeE_snoc (x : Str) (v : Ent) : ∀ (r : List (Str × Ent)) (E : Env), mergeE E (r ++ [(x, v)]) = putE (mergeE E r) x v
  | [], E => rfl
  | q :: r, E => mergeE_snoc x v r (putE E q.1 q.2)
/-- all that names go with, numbered, and the closed parts that they mean -/
abbrev Sto := List (Env × List (Str × P))
def envS (S : Sto) (e : Nat) : Env := ((S[e]?).map (·.1)).getD []
def thS (S : Sto) (e : Nat) : List (Str × P) := ((S[e]?).map (·.2)).getD []
theorem thS_app {S : Sto} {e : Nat} (h : e < S.length) (X : Sto) : thS (S ++ X) e = thS S e := by
  unfold thS
  rw [List.getElem?_append_left h]
theorem envS_app {S : Sto} {e : Nat} (h : e < S.length) (X : Sto) : envS (S ++ X) e = envS S e := by
  unfold envS
  rw [List.getElem?_append_left h]
theorem thS_new (S : Sto) (E : Env) (th : List (Str × P)) : thS (S ++ [(E, th)]) S.length = th := by
  unfold thS
  rw [List.getElem?_concat_length]
  rfl
theorem envS_new (S : Sto) (E : Env) (th : List (Str × P)) : envS (S ++ [(E, th)]) S.length = E := by
  unfold envS
  rw [List.getElem?_concat_length]
  rfl
/-- a part that may go with these closed parts -/
structure Pc (F : List Str) (th : List (Str × P)) (p : P) : Prop where
  ok : p.okS F
  cl : ∃ sc, p.cl sc ∧ ∀ x, x ∈ sc → getT th x ≠ none
  rn : p.rown.Nodup
  ap : ∀ x, x ∈ p.rown → getT th x = none
abbrev Clo := P × Nat
def mC (S : Sto) (c : Clo) : P := P.put (thS S c.2) c.1
structure CloOk (F : List Str) (S : Sto) (c : Clo) : Prop where
  lt : c.2 < S.length
  pc : Pc F (thS S c.2) c.1
def lets (nm : List Str) (as : List P) : List (Str × P) := nm.zip (as.map fun a => P.lt nm as a)
/-- what a name goes with, and the closed part that it means -/
structure EnR (F : List Str) (S : Sto) (v : Ent) (q : P) : Prop where
  ok : CloOk F S (v.1, v.2.1)
  no : v.2.2 = false → q = mC S (v.1, v.2.1)
  yes : v.2.2 = true → ∃ nm as b, q = .lt nm as b ∧ P.put (mergeT [] (lets nm as)) b = mC S (v.1, v.2.1)
def Par (R : Ent → P → Prop) (E : Env) (th : List (Str × P)) : Prop := ∀ x, match lookE E x, getT th x with
  | some v, some q => R v q
  | none, none => True
  | _, _ => False
theorem Par.mono {R R' : Ent → P → Prop} {E : Env} {th : List (Str × P)} (h : Par R E th) (k : ∀ v q, R v q → R' v q) : Par R' E th := fun x => by
  have := h x
  cases e1 : lookE E x with
  | none => cases e2 : getT th x with
    | none => exact True.intro
    | some q => rw [e1, e2] at this; exact this
  | some v => cases e2 : getT th x with
    | none => rw [e1, e2] at this; exact this
    | some q => rw [e1, e2] at this; exact k _ _ this
theorem Par.nil (R : Ent → P → Prop) : Par R [] [] := fun _ => True.intro
theorem Par.put {R : Ent → P → Prop} {E : Env} {th : List (Str × P)} (h : Par R E th) {x : Str} {v : Ent} {q : P} (k : R v q) : Par R (putE E x v) (putT th x q) := fun y => by
  rw [lookE_put, getT_put]
  by_cases e : y = x
  · rw [if_pos e, if_pos e]; exact k
  · rw [if_neg e, if_neg e]; exact h y
theorem Par.merge {R : Ent → P → Prop} : ∀ {ns : List Str} {vs : List Ent} {qs : List P} {E : Env} {th : List (Str × P)}, Par R E th → (∀ (i : Nat) v q, vs[i]? = some v → qs[i]? = some q → R v q) → vs.length = qs.length → Par R (mergeE E (ns.zip vs)) (mergeT th (ns.zip qs))
  | [], vs, qs, E, th, h, _, _ => by
    rw [List.zip_nil_left, List.zip_nil_left]
    exact h
  | n :: ns, [], qs, E, th, h, _, e => by
    have : qs = [] := List.eq_nil_of_length_eq_zero e.symm
    rw [this]
    exact h
  | n :: ns, v :: vs, [], _, _, _, _, e => nomatch e
  | n :: ns, v :: vs, q :: qs, E, th, h, k, e => by
    rw [List.zip_cons_cons, List.zip_cons_cons]
    exact Par.merge (ns := ns) (h.put (k 0 v q rfl rfl)) (fun i v q h1 h2 => k (i + 1) v q h1 h2) (Nat.succ.inj e)
theorem Par.some {R : Ent → P → Prop} {E : Env} {th : List (Str × P)} (h : Par R E th) {x : Str} (hx : getT th x ≠ none) : ∃ v q, lookE E x = some v ∧ getT th x = some q ∧ R v q := by
  have := h x
  cases e2 : getT th x with
  | none => exact absurd e2 hx
  | some q =>
    cases e1 : lookE E x with
    | none => rw [e1, e2] at this; exact this.elim
    | some v => rw [e1, e2] at this; exact ⟨v, q, rfl, rfl, this⟩
/-- all is as it should be -/
def SOk (F : List Str) (S : Sto) : Prop := ∀ (i : Nat) (E : Env) th, S[i]? = some (E, th) → Par (EnR F S) E th ∧ E.length ≤ 64 * (i + 1)
theorem mC_app {S : Sto} {c : Clo} (h : c.2 < S.length) (X : Sto) : mC (S ++ X) c = mC S c := by
  unfold mC
  rw [thS_app h]
theorem CloOk.app {F : List Str} {S : Sto} {c : Clo} (h : CloOk F S c) (X : Sto) : CloOk F (S ++ X) c :=
  ⟨by rw [List.length_append]; have := h.lt; omega, by rw [thS_app h.lt]; exact h.pc⟩
theorem EnR.app {F : List Str} {S : Sto} {v : Ent} {q : P} (h : EnR F S v q) (X : Sto) : EnR F (S ++ X) v q :=
  ⟨h.ok.app X, fun e => by rw [mC_app h.ok.lt]; exact h.no e, fun e => by rw [mC_app h.ok.lt]; exact h.yes e⟩
theorem SOk.add {F : List Str} {S : Sto} {E : Env} {th : List (Str × P)} (h : SOk F S) (p : Par (EnR F (S ++ [(E, th)])) E th) (l : E.length ≤ 64 * (S.length + 1)) : SOk F (S ++ [(E, th)]) := fun i E' th' e => by
  by_cases hi : i < S.length
  · rw [List.getElem?_append_left hi] at e
    obtain ⟨h1, h2⟩ := h i E' th' e
    exact ⟨h1.mono fun v q k => k.app _, h2⟩
  · have hi2 : i = S.length := by
      have := (List.getElem?_eq_some_iff.mp e).1
      rw [List.length_append, List.length_singleton] at this
      omega
    subst hi2
    rw [List.getElem?_concat_length] at e
    cases e
    exact ⟨p, l⟩
theorem S_get {S : Sto} {e : Nat} (h : e < S.length) : S[e]? = some (envS S e, thS S e) := by
  unfold envS thS
  rw [List.getElem?_eq_getElem h]
  rfl
/-! ### lets and calls -/
theorem rowns_mem {a : P} : ∀ {as : List P}, a ∈ as → ∀ x, x ∈ a.rown → x ∈ P.rowns as
  | b :: as, m, x, h => by
    show x ∈ b.rown ++ P.rowns as
    rcases List.mem_cons.mp m with rfl | m
    · exact List.mem_append_left _ h
    · exact List.mem_append_right _ (rowns_mem m x h)
theorem rowns_nd {a : P} : ∀ {as : List P}, a ∈ as → (P.rowns as).Nodup → a.rown.Nodup
  | b :: as, m, h => by
    have h' : (b.rown ++ P.rowns as).Nodup := h
    rw [List.nodup_append] at h'
    rcases List.mem_cons.mp m with rfl | m
    · exact h'.1
    · exact rowns_nd m h'.2.1
def letE (E : Env) (nm : List Str) (as : List P) (n : Nat) : Env := mergeE E (nm.zip (as.map fun a => (a, n, true)))
def letT (th : List (Str × P)) (nm : List Str) (as : List P) : List (Str × P) := mergeT th (lets nm (P.puts th as))
def callE (ns : List Str) (cs : List Clo) : Env := mergeE [] (ns.zip (cs.map fun c => (c.1, c.2, false)))
def callT (S : Sto) (ns : List Str) (cs : List Clo) : List (Str × P) := mergeT [] (ns.zip (cs.map (mC S)))
theorem lets_names {nm : List Str} {as : List P} (h : nm.length = as.length) : (lets nm as).map (·.1) = nm := zip_names (by rw [List.length_map]; exact h)
section
variable {F : List Str} {S : Sto}
theorem let_pc {th : List (Str × P)} {nm : List Str} {as : List P} {b x : P} (h : Pc F th (.lt nm as b)) (m : x ∈ as ∨ x = b) : Pc F (letT th nm as) x ∧ P.put (mergeT [] (lets nm (P.puts th as))) (P.put th x) = P.put (letT th nm as) x := by
  have ho : nm.length = as.length ∧ (∀ x, x ∈ nm → nmOk x) ∧ P.okSs F as ∧ P.okS F b := h.ok
  have hl : (lets nm (P.puts th as)).map (·.1) = nm := lets_names (by rw [puts_len]; exact ho.1)
  have hnd : (nm ++ (P.rowns as ++ P.rown b)).Nodup := h.rn
  have hap : ∀ y, y ∈ nm ++ (P.rowns as ++ P.rown b) → getT th y = none := h.ap
  obtain ⟨sc, hc, hs⟩ := h.cl
  have hc' : P.cls (sc ++ nm) as ∧ P.cl (sc ++ nm) b := hc
  rw [List.nodup_append] at hnd
  have hin : ∀ y, y ∈ x.rown → y ∈ P.rowns as ++ P.rown b := fun y my => by
    rcases m with m | m
    · exact List.mem_append_left _ (rowns_mem m y my)
    · rw [m] at my; exact List.mem_append_right _ my
  refine ⟨⟨?_, ⟨sc ++ nm, ?_, fun y my => ?_⟩, ?_, fun y my => ?_⟩, merge_put (fun y my => ?_) x⟩
  · rcases m with m | m
    · exact okSs_iff.mp ho.2.2.1 x m
    · rw [m]; exact ho.2.2.2
  · rcases m with m | m
    · exact cls_iff.mp hc'.1 x m
    · rw [m]; exact hc'.2
  · refine mergeT_get y _ _ ?_
    rcases List.mem_append.mp my with my | my
    · exact .inl (hs y my)
    · exact .inr (by rw [hl]; exact my)
  · have h2 := hnd.2.1
    rw [List.nodup_append] at h2
    rcases m with m | m
    · exact rowns_nd m h2.1
    · rw [m]; exact h2.2.1
  · refine getT_mergeIn (hap y (List.mem_append_right _ (hin y my))) ?_
    rw [hl]
    exact fun q => hnd.2.2 y q y (hin y my) rfl
  · rw [hl] at my
    exact hap y (List.mem_append_left _ my)
theorem let_add {e : Nat} {nm : List Str} {as : List P} {b : P} (hS : SOk F S) (he : e < S.length) (h : Pc F (thS S e) (.lt nm as b)) (hn : nm.length ≤ 60) : SOk F (S ++ [(letE (envS S e) nm as S.length, letT (thS S e) nm as)]) ∧ CloOk F (S ++ [(letE (envS S e) nm as S.length, letT (thS S e) nm as)]) (b, S.length) := by
  have ho : nm.length = as.length := (show nm.length = as.length ∧ _ from h.ok).1
  obtain ⟨h1, h2⟩ := hS e _ _ (S_get he)
  have hlt : S.length < (S ++ [(letE (envS S e) nm as S.length, letT (thS S e) nm as)]).length := by rw [List.length_append]; exact Nat.lt_succ_self _
  refine ⟨hS.add (Par.merge (h1.mono fun v q k => k.app _) (fun i v q e1 e2 => ?_) (by rw [List.length_map, List.length_map, puts_len])) ?_, hlt, ?_⟩
  · rw [List.getElem?_map] at e1 e2
    rw [puts_map, List.getElem?_map] at e2
    cases ea : as[i]? with
    | none => rw [ea] at e1; cases e1
    | some a =>
      rw [ea] at e1 e2
      cases e1
      cases e2
      obtain ⟨p1, p2⟩ := let_pc h (x := a) (.inl (List.mem_of_getElem? ea))
      refine ⟨⟨hlt, ?_⟩, (fun c => nomatch c), fun _ => ⟨nm, P.puts (thS S e) as, P.put (thS S e) a, by rw [puts_map], ?_⟩⟩
      · show Pc F (thS _ S.length) a
        rw [thS_new]
        exact p1
      · show _ = P.put (thS _ S.length) a
        rw [thS_new]
        exact p2
  · have h3 := mergeE_len (nm.zip (as.map fun a => ((a, S.length, true) : Ent))) (envS S e)
    rw [List.length_zip] at h3
    show (mergeE (envS S e) (nm.zip (as.map fun a => ((a, S.length, true) : Ent)))).length ≤ _
    have : 64 * (e + 1) ≤ 64 * S.length := Nat.mul_le_mul_left _ he
    omega
  · show Pc F (thS _ S.length) b
    rw [thS_new]
    exact (let_pc h (.inr rfl)).1
end
/-- the functions' bodies may go with their things -/
def PrC (fs : List Fn) : Prop := ∀ (i : Nat) (g : Fn), fs[i]? = some g → g.2.2.okS (fs.map (·.1)) ∧ g.2.2.cl g.2.1 ∧ (g.2.1 ++ g.2.2.rown).Nodup ∧ g.2.1.length ≤ 4
theorem call_add {fs : List Fn} {S : Sto} {i : Nat} {g : Fn} {cs : List Clo} (hP : PrC fs) (hS : SOk (fs.map (·.1)) S) (hi : fs[i]? = some g) (hl : g.2.1.length = cs.length) (hc : ∀ c, c ∈ cs → CloOk (fs.map (·.1)) S c) : SOk (fs.map (·.1)) (S ++ [(callE g.2.1 cs, callT S g.2.1 cs)]) ∧ CloOk (fs.map (·.1)) (S ++ [(callE g.2.1 cs, callT S g.2.1 cs)]) (g.2.2, S.length) := by
  obtain ⟨p1, p2, p3, p4⟩ := hP i g hi
  rw [List.nodup_append] at p3
  have hn : (g.2.1.zip (cs.map (mC S))).map (·.1) = g.2.1 := zip_names (by rw [List.length_map]; exact hl)
  refine ⟨hS.add (Par.merge (Par.nil _) (fun j v q e1 e2 => ?_) (by rw [List.length_map, List.length_map])) ?_, by rw [List.length_append]; exact Nat.lt_succ_self _, ?_⟩
  · rw [List.getElem?_map] at e1 e2
    cases ea : cs[j]? with
    | none => rw [ea] at e1; cases e1
    | some c =>
      rw [ea] at e1 e2
      cases e1
      cases e2
      have hk := hc c (List.mem_of_getElem? ea)
      exact ⟨hk.app _, fun _ => (mC_app hk.lt _).symm, fun e => nomatch e⟩
  · have h3 := mergeE_len (g.2.1.zip (cs.map fun c => ((c.1, c.2, false) : Ent))) []
    rw [List.length_zip] at h3
    show (mergeE [] (g.2.1.zip (cs.map fun c => ((c.1, c.2, false) : Ent)))).length ≤ _
    have : ([] : Env).length = 0 := rfl
    omega
  · show Pc _ (thS _ S.length) g.2.2
    rw [thS_new]
    refine ⟨p1, ⟨g.2.1, p2, fun x m => mergeT_get x _ _ (.inr (by rw [hn]; exact m))⟩, p3.2.1, fun x m => getT_mergeIn rfl ?_⟩
    rw [hn]
    exact fun q => p3.2.2 x q x m rfl
theorem nil_add {F : List Str} {S : Sto} (hS : SOk F S) {p : P} (h1 : p.okS F) (h2 : p.cl []) (h3 : p.rown.Nodup) : SOk F (S ++ [([], [])]) ∧ CloOk F (S ++ [([], [])]) (p, S.length) ∧ mC (S ++ [([], [])]) (p, S.length) = p := by
  refine ⟨hS.add (Par.nil _) (Nat.zero_le _), ⟨by rw [List.length_append]; exact Nat.lt_succ_self _, ?_⟩, ?_⟩
  · show Pc F (thS _ S.length) p
    rw [thS_new]
    exact ⟨h1, ⟨[], h2, fun _ m => nomatch m⟩, h3, fun _ _ => rfl⟩
  · show P.put (thS _ S.length) p = p
    rw [thS_new, put_nil]
end Lz

set_option Elab.async false
set_option linter.all false
set_option autoImplicit false
set_option maxRecDepth 100000
set_option maxHeartbeats 4000000
/-! The law's turns, and what they come to beside the steps of the whole part: plain Lean. -/
namespace Lz
open PySem PySem.Spec PyProof.Rows L2
inductive Wt where
  | num (i : Int)
  | pair (a b : Clo)
  | fn (f : Str) (l : List Clo)
inductive Fr where
  | op (k : Str) (as : List P) (e : Nat)
  | sec (k : Str) (i : Int)
/-- a turn: where to go, with frames more, words and what names go with; a worth; a fault -/
inductive TR where
  | go (c : Clo) (fr : List Fr) (ws : List Str) (es : Sto)
  | w (w : Wt) (ws : List Str)
  | f (x : Str)
def opk : List Str := ["give", "plus", "less", "times", "below", "when", "left", "right"]
inductive Into (fs : List Fn) (S : Sto) (e : Nat) : P → TR → Prop
  | shut {q : P} : Into fs S e (.op "shut" [q]) (.go (q, S.length) [] ["open"] [([], [])])
  | num {i : Int} : Into fs S e (.num i) (.w (.num i) [])
  | pair {a b : P} : Into fs S e (.op "pair" [a, b]) (.w (.pair (a, e) (b, e)) [])
  | nam {x : Str} {p : P} {j : Nat} {fl : Bool} : lookE (envS S e) x = some (p, j, fl) → Into fs S e (.nam x) (.go (p, j) [] (if fl then ["open", "let"] else ["open"]) [])
  | lett {nm : List Str} {as : List P} {b : P} : Into fs S e (.lt nm as b) (.go (b, S.length) [] ["let"] [(letE (envS S e) nm as S.length, letT (thS S e) nm as)])
  | call {i : Nat} {g : Fn} : fs[i]? = some g → g.2.1 = [] → Into fs S e (.fn g.1) (.go (g.2.2, S.length) [] ["call"] [([], [])])
  | fn {i : Nat} {g : Fn} : fs[i]? = some g → g.2.1 ≠ [] → Into fs S e (.fn g.1) (.w (.fn g.1 []) [])
  | op {k : Str} {a : P} {as : List P} : k ∈ opk → Into fs S e (.op k (a :: as)) (.go (a, e) [.op k (a :: as) e] [] [])
def isNum : Wt → Bool
  | .num _ => true
  | _ => false
def isFn : Wt → Bool
  | .fn _ _ => true
  | _ => false
def isPr : Wt → Bool
  | .pair _ _ => true
  | _ => false
inductive OutR (fs : List Fn) (S : Sto) : Fr → Wt → TR → Prop
  | numb {k : Str} {i j : Int} : k ∈ fours → (comeOf k i j).natAbs < 10 ^ 60 → OutR fs S (.sec k i) (.num j) (.w (.num (comeOf k i j)) ["number"])
  | great {k : Str} {i j : Int} : k ∈ fours → ¬ (comeOf k i j).natAbs < 10 ^ 60 → OutR fs S (.sec k i) (.num j) (.f "great")
  | secF {k : Str} {i : Int} {w : Wt} : k ∈ fours → isNum w = false → OutR fs S (.sec k i) w (.f "number")
  | give {a b : P} {e i : Nat} {g : Fn} {l : List Clo} : fs[i]? = some g → l.length + 1 < g.2.1.length → OutR fs S (.op "give" [a, b] e) (.fn g.1 l) (.w (.fn g.1 (l ++ [(b, e)])) [])
  | call {a b : P} {e i : Nat} {g : Fn} {l : List Clo} : fs[i]? = some g → l.length + 1 = g.2.1.length → OutR fs S (.op "give" [a, b] e) (.fn g.1 l) (.go (g.2.2, S.length) [] ["call"] [(callE g.2.1 (l ++ [(b, e)]), callT S g.2.1 (l ++ [(b, e)]))])
  | giveF {a b : P} {e : Nat} {w : Wt} : isFn w = false → OutR fs S (.op "give" [a, b] e) w (.f "function")
  | side {k : Str} {a : P} {e : Nat} {x y : Clo} : (k = "left" ∨ k = "right") → OutR fs S (.op k [a] e) (.pair x y) (.go (if k = "left" then x else y) [] ["side"] [])
  | sideF {k : Str} {a : P} {e : Nat} {w : Wt} : (k = "left" ∨ k = "right") → isPr w = false → OutR fs S (.op k [a] e) w (.f "pair")
  | when {a b c : P} {e : Nat} {i : Int} : OutR fs S (.op "when" [a, b, c] e) (.num i) (.go (if i ≠ 0 then b else c, e) [] ["turn"] [])
  | whenF {a b c : P} {e : Nat} {w : Wt} : isNum w = false → OutR fs S (.op "when" [a, b, c] e) w (.f "number")
  | two {k : Str} {a b : P} {e : Nat} {i : Int} : k ∈ fours → OutR fs S (.op k [a, b] e) (.num i) (.go (b, e) [.sec k i] [] [])
  | twoF {k : Str} {a b : P} {e : Nat} {w : Wt} : k ∈ fours → isNum w = false → OutR fs S (.op k [a, b] e) w (.f "number")
inductive RL where
  | w (w : Wt) (S : Sto)
  | f (x : Str)
  | more
/-! ### what is meant -/
def gvs (h : P) (l : List P) : P := l.foldl (fun a b => .op "give" [a, b]) h
theorem gvs_snoc (h : P) (l : List P) (b : P) : gvs h (l ++ [b]) = .op "give" [gvs h l, b] := by
  unfold gvs
  rw [List.foldl_append]
  rfl
theorem rev_ind {α : Type} {Q : List α → Prop} (h0 : Q []) (hs : ∀ l a, Q l → Q (l ++ [a])) : ∀ l, Q l := fun l => by
  have : ∀ m : List α, Q m.reverse := fun m => by
    induction m with
    | nil => exact h0
    | cons a m ih => rw [List.reverse_cons]; exact hs _ _ ih
  have := this l.reverse
  rwa [List.reverse_reverse] at this
theorem gvs_gv (f : Str) : ∀ l : List P, Gv (gvs (.fn f) l) (.fn f) l := by
  refine rev_ind ?_ ?_
  · exact .stop (show ("fun" : Str) ≠ "give" by decide +kernel)
  · intro l a ih
    rw [gvs_snoc]
    exact .give ih
theorem gvs_hd (f : Str) : ∀ l : List P, (gvs (.fn f) l).hd = "fun" ∨ (gvs (.fn f) l).hd = "give" := by
  refine rev_ind (.inl rfl) ?_
  intro l a _
  rw [gvs_snoc]
  exact .inr rfl
def mW (S : Sto) : Wt → P
  | .num i => .num i
  | .pair a b => .op "pair" [mC S a, mC S b]
  | .fn f l => gvs (.fn f) (l.map (mC S))
def cF (S : Sto) : Fr → Ctxt
  | .op k as e => (k, P.puts (thS S e) as, 0)
  | .sec k i => (k, [.num i, .num 0], 1)
def mF (S : Sto) : Clo ⊕ Wt → P
  | .inl c => mC S c
  | .inr w => mW S w
def WtOk (fs : List Fn) (S : Sto) : Wt → Prop
  | .num i => True
  | .pair a b => CloOk (fs.map (·.1)) S a ∧ CloOk (fs.map (·.1)) S b
  | .fn f l => ∃ (i : Nat) (g : Fn), fs[i]? = some g ∧ f = g.1 ∧ l.length < g.2.1.length ∧ ∀ c, c ∈ l → CloOk (fs.map (·.1)) S c
def FrOk (fs : List Fn) (S : Sto) : Fr → Prop
  | .op k as e => Ev (k, as, 0) ∧ ∀ a, a ∈ as → CloOk (fs.map (·.1)) S (a, e)
  | .sec k i => k ∈ fours
def FoOk (fs : List Fn) (S : Sto) : Clo ⊕ Wt → Prop
  | .inl c => CloOk (fs.map (·.1)) S c
  | .inr w => WtOk fs S w
section
variable {fs : List Fn} {d : P} {S : Sto}
theorem puts_ev {th : List (Str × P)} {k : Str} {as : List P} (h : Ev (k, as, 0)) : Ev (k, P.puts th as, 0) := by
  cases h with
  | give => exact .give
  | two1 k => exact .two1 k
  | when => exact .when
  | side k => exact .side k
theorem FrOk.ev {f : Fr} (h : FrOk fs S f) : Ev (cF S f) := by
  cases f with
  | op k as e => exact puts_ev h.1
  | sec k i => exact .two2 h
theorem WtOk.app {w : Wt} (h : WtOk fs S w) (X : Sto) : WtOk fs (S ++ X) w ∧ mW (S ++ X) w = mW S w := by
  cases w with
  | num i => exact ⟨True.intro, rfl⟩
  | pair a b =>
    refine ⟨⟨h.1.app X, h.2.app X⟩, ?_⟩
    show P.op "pair" [mC (S ++ X) a, mC (S ++ X) b] = _
    rw [mC_app h.1.lt, mC_app h.2.lt]
    rfl
  | fn f l =>
    obtain ⟨i, g, h1, h2, h3, h4⟩ := h
    refine ⟨⟨i, g, h1, h2, h3, fun c m => (h4 c m).app X⟩, ?_⟩
    show gvs (.fn f) (l.map (mC (S ++ X))) = gvs (.fn f) (l.map (mC S))
    rw [List.map_congr_left fun c m => mC_app (h4 c m).lt X]
theorem FrOk.app {f : Fr} (h : FrOk fs S f) (X : Sto) : FrOk fs (S ++ X) f ∧ cF (S ++ X) f = cF S f := by
  cases f with
  | op k as e =>
    refine ⟨⟨h.1, fun a m => (h.2 a m).app X⟩, ?_⟩
    show (k, P.puts (thS (S ++ X) e) as, 0) = (k, P.puts (thS S e) as, 0)
    obtain ⟨a, ha⟩ : ∃ a, a ∈ as := by
      have := h.1.lt.1
      cases as with
      | nil => exact absurd (show 0 < 0 from this) (by decide)
      | cons a r => exact ⟨a, List.mem_cons_self⟩
    rw [thS_app (h.2 a ha).lt]
  | sec k i => exact ⟨h, rfl⟩
theorem frs_app {fr : List Fr} (h : ∀ f, f ∈ fr → FrOk fs S f) (X : Sto) : (∀ f, f ∈ fr → FrOk fs (S ++ X) f) ∧ fr.map (cF (S ++ X)) = fr.map (cF S) :=
  ⟨fun f m => ((h f m).app X).1, List.map_congr_left fun f m => ((h f m).app X).2⟩
theorem mW_wb (hnd : (fs.map (·.1)).Nodup) {w : Wt} (h : WtOk fs S w) : wb fs (mW S w) = true := by
  cases w with
  | num i => exact worth_num i
  | pair a b => exact worth_pair _ _
  | fn f l =>
    obtain ⟨i, g, h1, h2, h3, h4⟩ := h
    show wb fs (gvs (.fn f) (l.map (mC S))) = true
    rw [wb_eq (gvs_gv f _).spine, worth_fn, h2, wants_at hnd h1, List.length_map]
    exact decide_eq_true h3
theorem mW_num {w : Wt} (h : isNum w = false) : (mW S w).hd ≠ "number" := by
  cases w with
  | num i => cases h
  | pair a b => exact (show ("pair" : Str) ≠ "number" by decide +kernel)
  | fn f l => rcases gvs_hd f (l.map (mC S)) with e | e <;> (show (gvs _ _).hd ≠ _; rw [e]; decide +kernel)
theorem mW_pr {w : Wt} (h : isPr w = false) : (mW S w).hd ≠ "pair" := by
  cases w with
  | num i => exact (show ("number" : Str) ≠ "pair" by decide +kernel)
  | pair a b => cases h
  | fn f l => rcases gvs_hd f (l.map (mC S)) with e | e <;> (show (gvs _ _).hd ≠ _; rw [e]; decide +kernel)
theorem mW_fn {w : Wt} (h : isFn w = false) : (mW S w).hd = "number" ∨ (mW S w).hd = "pair" := by
  cases w with
  | num i => exact .inl rfl
  | pair a b => exact .inr rfl
  | fn f l => cases h
end
/-! ### one turn -/
/-- what a turn of the law is, of the whole part -/
inductive Tn (fs : List Fn) (d : P) (S : Sto) (cs : List Ctxt) (T : P) : TR → Prop
  | adm {c : Clo} {fr : List Fr} {es : Sto} : CloOk (fs.map (·.1)) (S ++ es) c → (∀ f, f ∈ fr → FrOk fs (S ++ es) f) → plugP (fr.map (cF (S ++ es)) ++ cs) (mC (S ++ es) c) = T → es = [] → Tn fs d S cs T (.go c fr [] es)
  | one {c : Clo} {es : Sto} {x : Str} : SOk (fs.map (·.1)) (S ++ es) → CloOk (fs.map (·.1)) (S ++ es) c → es.length ≤ 1 → StepR fs d T (.s x (plugP cs (mC (S ++ es) c))) → Tn fs d S cs T (.go c [] [x] es)
  | two {c : Clo} {x y : Str} {U : P} : CloOk (fs.map (·.1)) S c → StepR fs d T (.s x U) → StepR fs d U (.s y (plugP cs (mC S c))) → Tn fs d S cs T (.go c [] [x, y] [])
  | worth {w : Wt} : WtOk fs S w → plugP cs (mW S w) = T → Tn fs d S cs T (.w w [])
  | worth1 {w : Wt} {x : Str} : WtOk fs S w → StepR fs d T (.s x (plugP cs (mW S w))) → Tn fs d S cs T (.w w [x])
  | fault {x : Str} : StepR fs d T (.f x) → Tn fs d S cs T (.f x)
section
variable {fs : List Fn} {d : P} {S : Sto}
theorem plug_here {cs : List Ctxt} (he : ∀ c, c ∈ cs → Ev c) {t u : P} {x : Str} (hw : wb fs t = false) (h : Due fs d t (.s x u)) : StepR fs d (plugP cs t) (.s x (plugP cs u)) := by
  have := step_plug cs he hw (StepR.here hw h)
  rw [plug_s] at this
  exact this
theorem plug_fault {cs : List Ctxt} (he : ∀ c, c ∈ cs → Ev c) {t : P} {x : Str} (hw : wb fs t = false) (h : Due fs d t (.f x)) : StepR fs d (plugP cs t) (.f x) := by
  have := step_plug cs he hw (StepR.fault hw h)
  rw [plug_f] at this
  exact this
theorem fns_at {i : Nat} {g : Fn} (h : fs[i]? = some g) : (fnsOf fs d)[i]? = some g := by
  show (fs ++ [askedFn d])[i]? = some g
  rw [List.getElem?_append_left (List.getElem?_eq_some_iff.mp h).1]
  exact h
theorem pc_in {F : List Str} {th : List (Str × P)} {k : Str} {as : List P} {a : P} (hk : k ≠ "shut") (h : Pc F th (.op k as)) (m : a ∈ as) : Pc F th a := by
  obtain ⟨sc, hc, hs⟩ := h.cl
  have ho : (k, as.length) ∈ kinds2 ∧ P.okSs F as := h.ok
  exact ⟨okSs_iff.mp ho.2 a m, ⟨sc, cls_iff.mp ((cl_op hk).mp hc) a m, hs⟩, rowns_nd m h.rn, fun x mx => h.ap x (rowns_mem m x mx)⟩
theorem clo_in {F : List Str} {k : Str} {as : List P} {a : P} {e : Nat} (hk : k ≠ "shut") (h : CloOk F S (.op k as, e)) (m : a ∈ as) : CloOk F S (a, e) := ⟨h.lt, pc_in hk h.pc m⟩
theorem kind_ev {k : Str} {a : P} {as : List P} (hk : k ∈ opk) (h : (k, (a :: as).length) ∈ kinds2) : Ev (k, a :: as, 0) := by
  unfold opk at hk
  simp only [List.mem_cons, List.not_mem_nil, or_false] at hk
  rcases hk with rfl | rfl | rfl | rfl | rfl | rfl | rfl | rfl
  · obtain ⟨x, y, e⟩ := two_of (give_two h); rw [e]; exact .give
  · obtain ⟨x, y, e⟩ := two_of (fours_two (k := "plus") (by decide +kernel) h); rw [e]; exact .two1 (by decide +kernel)
  · obtain ⟨x, y, e⟩ := two_of (fours_two (k := "less") (by decide +kernel) h); rw [e]; exact .two1 (by decide +kernel)
  · obtain ⟨x, y, e⟩ := two_of (fours_two (k := "times") (by decide +kernel) h); rw [e]; exact .two1 (by decide +kernel)
  · obtain ⟨x, y, e⟩ := two_of (fours_two (k := "below") (by decide +kernel) h); rw [e]; exact .two1 (by decide +kernel)
  · obtain ⟨x, y, z, e⟩ := three_of (when_three h); rw [e]; exact .when
  · obtain ⟨x, e⟩ := one_of (side_one (.inl rfl) h); rw [e]; exact .side (.inl rfl)
  · obtain ⟨x, e⟩ := one_of (side_one (.inr rfl) h); rw [e]; exact .side (.inr rfl)
theorem opk_ns {k : Str} (hk : k ∈ opk) : k ≠ "shut" := fun e => by
  rw [e] at hk
  exact absurd hk (by decide +kernel)
/-- a turn into a part -/
theorem into_ex (hnd : (fs.map (·.1)).Nodup) (hP : PrC fs) (hS : SOk (fs.map (·.1)) S) {cs : List Ctxt} (he : ∀ c, c ∈ cs → Ev c) {p : P} {e : Nat} (hc : CloOk (fs.map (·.1)) S (p, e)) (hl : ∀ nm as b, p = .lt nm as b → nm.length ≤ 60) : ∃ R, Into fs S e p R ∧ Tn fs d S cs (plugP cs (mC S (p, e))) R := by
  cases p with
  | num i => exact ⟨_, .num, .worth True.intro rfl⟩
  | fn f =>
    have hf : nmOk f ∧ f ∈ fs.map (·.1) := hc.pc.ok
    obtain ⟨g, hgm, rfl⟩ := List.mem_map.mp hf.2
    obtain ⟨i, hi⟩ := List.mem_iff_getElem?.mp hgm
    by_cases h0 : g.2.1 = []
    · obtain ⟨p1, p2, p3, p4⟩ := hP i g hi
      rw [h0] at p2 p3
      obtain ⟨a1, a2, a3⟩ := nil_add hS p1 p2 (by simpa using p3)
      have hs : Gv (.fn g.1) (.fn g.1) [] := .stop (by show ("fun" : Str) ≠ "give"; decide +kernel)
      refine ⟨_, .call hi h0, .one a1 a2 (Nat.le_refl _) ?_⟩
      rw [a3]
      have hw : wb fs (.fn g.1) = false := by
        cases e : wb fs (.fn g.1) with
        | false => rfl
        | true =>
          rw [wb_eq hs.spine, worth_fn] at e
          rw [wants_at hnd hi, h0] at e
          exact absurd (of_decide_eq_true e) (Nat.not_lt_zero _)
      have hd := Due.call (fs := fs) (d := d) (.inl rfl) hs (fns_at hi) (by rw [h0]; rfl)
      rw [h0, List.zip_nil_left] at hd
      have := plug_here he hw hd
      rw [show mergeT [] [] = ([] : List (Str × P)) from rfl, put_nil] at this
      exact this
    · exact ⟨_, .fn hi h0, .worth ⟨i, g, hi, rfl, by cases h : g.2.1 with | nil => exact absurd h h0 | cons _ _ => exact Nat.succ_pos _, fun _ m => nomatch m⟩ rfl⟩
  | nam x =>
    obtain ⟨sc, hcl, hsc⟩ := hc.pc.cl
    obtain ⟨v, q, h1, h2, h3⟩ := (hS e _ _ (S_get hc.lt)).1.some (hsc x hcl)
    obtain ⟨p, j, fl⟩ := v
    have hm : mC S (.nam x, e) = .op "shut" [q] := put_name h2
    have hw : wb fs (.op "shut" [q]) = false := wb_op (by decide +kernel) (by decide +kernel) (by decide +kernel) (by decide +kernel)
    rw [hm]
    cases fl with
    | false =>
      refine ⟨_, .nam h1, ?_⟩
      have := plug_here he hw (Due.shut (fs := fs) (d := d) (a := q))
      rw [h3.no rfl] at this
      exact .one (es := []) (by rw [List.append_nil]; exact hS) (by rw [List.append_nil]; exact h3.ok) (Nat.zero_le _) (by rw [List.append_nil, ← h3.no rfl]; exact plug_here he hw (Due.shut (fs := fs) (d := d) (a := q)))
    | true =>
      obtain ⟨nm, as, b, e1, e2⟩ := h3.yes rfl
      refine ⟨_, .nam h1, .two h3.ok (plug_here he hw Due.shut) ?_⟩
      rw [e1, ← e2]
      exact plug_here he wb_let Due.lett
  | lt nm as b =>
    obtain ⟨a1, a2⟩ := let_add hS hc.lt hc.pc (hl nm as b rfl)
    refine ⟨_, .lett, .one a1 a2 (Nat.le_refl _) ?_⟩
    have := plug_here (d := d) he (wb_let (fs := fs)) (Due.lett (fs := fs) (d := d) (nm := nm) (as := P.puts (thS S e) as) (b := P.put (thS S e) b))
    have e2 := (let_pc hc.pc (x := b) (.inr rfl)).2
    unfold lets at e2
    rw [e2] at this
    have e3 : mC (S ++ [(letE (envS S e) nm as S.length, letT (thS S e) nm as)]) (b, S.length) = P.put (letT (thS S e) nm as) b := by
      show P.put (thS _ S.length) b = _
      rw [thS_new]
    rw [e3]
    exact this
  | op k as =>
    have ho : (k, as.length) ∈ kinds2 ∧ P.okSs (fs.map (·.1)) as := hc.pc.ok
    by_cases hs : k = "shut"
    · subst hs
      obtain ⟨q, rfl⟩ := one_of (shut_one ho.1)
      obtain ⟨sc, hcl, hsc⟩ := hc.pc.cl
      have hcl' : P.cls (if ("shut" : Str) = "shut" then [] else sc) [q] := hcl
      rw [if_pos rfl] at hcl'
      obtain ⟨a1, a2, a3⟩ := nil_add hS ho.2.1 hcl'.1 (rowns_nd (as := [q]) List.mem_cons_self hc.pc.rn)
      refine ⟨_, .shut, .one a1 a2 (Nat.le_refl _) ?_⟩
      rw [a3]
      have hm : mC S (.op "shut" [q], e) = .op "shut" [q] := by
        show P.op "shut" (if ("shut" : Str) = "shut" then [q] else _) = _
        rw [if_pos rfl]
      rw [hm]
      exact plug_here he (wb_op (by decide +kernel) (by decide +kernel) (by decide +kernel) (by decide +kernel)) Due.shut
    have hm : mC S (.op k as, e) = .op k (P.puts (thS S e) as) := by
      show P.op k (if k = "shut" then as else P.puts (thS S e) as) = _
      rw [if_neg hs]
    by_cases hp : k = "pair"
    · subst hp
      obtain ⟨a, b, rfl⟩ := two_of (pair_two ho.1)
      refine ⟨_, .pair, .worth ⟨clo_in hs hc List.mem_cons_self, clo_in hs hc (List.mem_cons_of_mem _ List.mem_cons_self)⟩ ?_⟩
      rw [hm]
      rfl
    have hk : k ∈ opk := by
      have h := ho.1
      unfold kinds2 kinds at h
      simp only [List.mem_cons, Prod.mk.injEq, List.not_mem_nil, or_false] at h
      rcases h with h | h | h | h | h | h | h | h | h | h
      · exact absurd h.1 hs
      all_goals first | exact absurd h.1 hp | (rw [h.1]; decide +kernel)
    cases as with
    | nil => exact absurd (kind2_len ho.1).1 (by decide)
    | cons a as =>
      refine ⟨_, .op hk, .adm (es := []) (by rw [List.append_nil]; exact clo_in hs hc List.mem_cons_self) (fun f m => ?_) ?_ rfl⟩
      · rw [List.mem_singleton.mp m, List.append_nil]
        exact ⟨kind_ev hk ho.1, fun b m => clo_in hs hc m⟩
      · rw [hm, List.append_nil]
        rfl
theorem give_wb0 {a b : P} (h : a.hd = "number" ∨ a.hd = "pair") : wb fs (.op "give" [a, b]) = false := by
  have h1 : a.hd ≠ "give" := fun e => by
    rw [e] at h
    exact h.elim (fun h => absurd h (by decide +kernel)) (fun h => absurd h (by decide +kernel))
  have h2 : a.hd ≠ "fun" := fun e => by
    rw [e] at h
    exact h.elim (fun h => absurd h (by decide +kernel)) (fun h => absurd h (by decide +kernel))
  rw [wb_eq (Spine.give (b := b) (Spine.stop h1)), worth_not h2]
  rfl
theorem when_wb (as : List P) : wb fs (.op "when" as) = false := wb_op (by decide +kernel) (by decide +kernel) (by decide +kernel) (by decide +kernel)
/-- a turn out of a part -/
theorem out_ex (hnd : (fs.map (·.1)).Nodup) (hP : PrC fs) (hS : SOk (fs.map (·.1)) S) {cs : List Ctxt} (he : ∀ c, c ∈ cs → Ev c) {f : Fr} {w : Wt} (hf : FrOk fs S f) (hw : WtOk fs S w) : ∃ R, OutR fs S f w R ∧ Tn fs d S cs (plugP (cF S f :: cs) (mW S w)) R := by
  have hwb := mW_wb hnd hw
  cases f with
  | sec k i =>
    have hk : k ∈ fours := hf
    cases hn : isNum w with
    | false => exact ⟨_, .secF hk hn, .fault (plug_fault he (four_wb hk) (.twoF2 hk hwb (mW_num hn)))⟩
    | true =>
      cases w with
      | pair a b => cases hn
      | fn f l => cases hn
      | num j =>
        by_cases h : (comeOf k i j).natAbs < 10 ^ 60
        · exact ⟨_, .numb hk h, .worth1 True.intro (plug_here he (four_wb hk) (.two hk h))⟩
        · exact ⟨_, .great hk h, .fault (plug_fault he (four_wb hk) (.twoG hk h))⟩
  | op k as e =>
    obtain ⟨ev, hcl⟩ := hf
    have hclo : ∀ a, a ∈ as → CloOk (fs.map (·.1)) S (a, e) := hcl
    clear hcl
    cases ev with
    | @give a b =>
      have hb := hclo b (List.mem_cons_of_mem _ List.mem_cons_self)
      cases hn : isFn w with
      | false => exact ⟨_, .giveF hn, .fault (plug_fault he (give_wb0 (mW_fn hn)) (.giveF hwb (mW_fn hn)))⟩
      | true =>
        cases w with
        | num i => cases hn
        | pair a b => cases hn
        | fn f l =>
          obtain ⟨i, g, hi, rfl, hlt, hcs⟩ := hw
          have hall : ∀ c, c ∈ l ++ [(b, e)] → CloOk (fs.map (·.1)) S c := fun c m => by
            rcases List.mem_append.mp m with m | m
            · exact hcs c m
            · rw [List.mem_singleton.mp m]; exact hb
          have em : (l ++ [(b, e)]).map (mC S) = l.map (mC S) ++ [P.put (thS S e) b] := by rw [List.map_append]; rfl
          by_cases h : l.length + 1 < g.2.1.length
          · refine ⟨_, .give hi h, .worth ⟨i, g, hi, rfl, by rw [List.length_append]; exact h, hall⟩ ?_⟩
            show plugP cs (gvs (.fn g.1) ((l ++ [(b, e)]).map (mC S))) = plugP cs (.op "give" [gvs (.fn g.1) (l.map (mC S)), P.put (thS S e) b])
            rw [em, gvs_snoc]
          · have h1 : l.length + 1 = g.2.1.length := by omega
            obtain ⟨a1, a2⟩ := call_add hP hS hi (cs := l ++ [(b, e)]) (by rw [List.length_append]; exact h1.symm) hall
            refine ⟨_, .call hi h1, .one a1 a2 (Nat.le_refl _) ?_⟩
            have hg : Gv (.op "give" [gvs (.fn g.1) (l.map (mC S)), P.put (thS S e) b]) (.fn g.1) ((l ++ [(b, e)]).map (mC S)) := by
              rw [em]
              exact .give (gvs_gv _ _)
            have hwf : wb fs (.op "give" [gvs (.fn g.1) (l.map (mC S)), P.put (thS S e) b]) = false := by
              rw [wb_eq hg.spine, worth_fn, wants_at hnd hi, List.length_map, List.length_append]
              exact decide_eq_false (by show ¬ l.length + 1 < _; omega)
            have hh := gvs_hd g.1 (l.map (mC S))
            have hn1 : (gvs (.fn g.1) (l.map (mC S))).hd ≠ "number" := by rcases hh with e | e <;> rw [e] <;> decide +kernel
            have hn2 : (gvs (.fn g.1) (l.map (mC S))).hd ≠ "pair" := by rcases hh with e | e <;> rw [e] <;> decide +kernel
            have hd := Due.call (fs := fs) (d := d) (.inr ⟨_, _, rfl, hwb, hn1, hn2⟩) hg (fns_at hi) (by rw [List.length_map, List.length_append]; exact h1.symm)
            have := plug_here he hwf hd
            have e3 : mC (S ++ [(callE g.2.1 (l ++ [(b, e)]), callT S g.2.1 (l ++ [(b, e)]))]) (g.2.2, S.length) = P.put (callT S g.2.1 (l ++ [(b, e)])) g.2.2 := by
              show P.put (thS _ S.length) g.2.2 = _
              rw [thS_new]
            rw [e3]
            exact this
    | @two1 _ a b hk =>
      have hb := hclo b (List.mem_cons_of_mem _ List.mem_cons_self)
      cases hn : isNum w with
      | false => exact ⟨_, .twoF hk hn, .fault (plug_fault he (four_wb hk) (.twoF1 hk hwb (mW_num hn)))⟩
      | true =>
        cases w with
        | pair a b => cases hn
        | fn f l => cases hn
        | num i =>
          refine ⟨_, .two hk, .adm (es := []) (by rw [List.append_nil]; exact hb) (fun f m => ?_) ?_ rfl⟩
          · rw [List.mem_singleton.mp m, List.append_nil]
            exact hk
          · rw [List.append_nil]
            rfl
    | @when a b c =>
      cases hn : isNum w with
      | false => exact ⟨_, .whenF hn, .fault (plug_fault he (when_wb _) (.whenF hwb (mW_num hn)))⟩
      | true =>
        cases w with
        | pair a b => cases hn
        | fn f l => cases hn
        | num i =>
          refine ⟨_, .when, .one (es := []) (by rw [List.append_nil]; exact hS) ?_ (Nat.zero_le _) ?_⟩
          · rw [List.append_nil]
            by_cases h : i ≠ 0
            · rw [if_pos h]; exact hclo b (List.mem_cons_of_mem _ List.mem_cons_self)
            · rw [if_neg h]; exact hclo c (List.mem_cons_of_mem _ (List.mem_cons_of_mem _ List.mem_cons_self))
          · rw [List.append_nil]
            have := plug_here (fs := fs) (d := d) he (wb_op (by decide +kernel) (by decide +kernel) (by decide +kernel) (by decide +kernel)) (Due.when (i := i) (b := P.put (thS S e) b) (c := P.put (thS S e) c))
            have e2 : mC S (if i ≠ 0 then b else c, e) = if i ≠ 0 then P.put (thS S e) b else P.put (thS S e) c := by
              by_cases h : i ≠ 0
              · rw [if_pos h, if_pos h]; rfl
              · rw [if_neg h, if_neg h]; rfl
            rw [e2]
            exact this
    | @side _ a hk =>
      have hwb2 : ∀ as : List P, wb fs (.op k as) = false := fun as => by
        rcases hk with rfl | rfl <;> exact wb_op (by decide +kernel) (by decide +kernel) (by decide +kernel) (by decide +kernel)
      cases hn : isPr w with
      | false => exact ⟨_, .sideF hk hn, .fault (plug_fault he (hwb2 _) (.sideF hk hwb (mW_pr hn)))⟩
      | true =>
        cases w with
        | num i => cases hn
        | fn f l => cases hn
        | pair x y =>
          refine ⟨_, .side hk, .one (es := []) (by rw [List.append_nil]; exact hS) ?_ (Nat.zero_le _) ?_⟩
          · rw [List.append_nil]
            by_cases h : k = "left"
            · rw [if_pos h]; exact hw.1
            · rw [if_neg h]; exact hw.2
          · rw [List.append_nil]
            have := plug_here (fs := fs) (d := d) he (hwb2 _) (Due.side (a := mC S x) (b := mC S y) hk)
            have e2 : mC S (if k = "left" then x else y) = if k = "left" then mC S x else mC S y := by
              by_cases h : k = "left"
              · rw [if_pos h, if_pos h]
              · rw [if_neg h, if_neg h]
            rw [e2]
            exact this
end
end Lz

set_option Elab.async false
set_option linter.all false
set_option autoImplicit false
set_option maxRecDepth 100000
set_option maxHeartbeats 4000000
/-! The law's loop beside the steps of the whole part: plain Lean. -/
namespace Lz
open PySem PySem.Spec PyProof.Rows L2
abbrev whole (c : Clo ⊕ Wt) (fr : List Fr) (S : Sto) : P := plugP (fr.map (cF S)) (mF S c)
/-- what holds ahead of each turn -/
structure Vst (fs : List Fn) (c : Clo ⊕ Wt) (fr : List Fr) (S : Sto) : Prop where
  so : SOk (fs.map (·.1)) S
  fo : FoOk fs S c
  frk : ∀ f, f ∈ fr → FrOk fs S f
  ok : Ok10 fs 60 12 (whole c fr S)
  dp : (whole c fr S).deep ≤ 30000
  sl : S.length ≤ 60000
/-- the law's loop, so many turns; the frames' top first -/
inductive LR (fs : List Fn) (most : Nat) : Nat → (Clo ⊕ Wt) → List Fr → Sto → List Str → RL → List Str → Prop
  | more {c : Clo ⊕ Wt} {fr : List Fr} {S : Sto} {ws : List Str} : most < ws.length → ws.length ≤ most + 2 → LR fs most 0 c fr S ws .more ws
  | fin {w : Wt} {S : Sto} {ws : List Str} : ws.length ≤ most → Vst fs (.inr w) [] S → LR fs most 0 (.inr w) [] S ws (.w w S) ws
  | intoG {n : Nat} {p : P} {e : Nat} {fr fr' : List Fr} {S es : Sto} {ws ws' wf : List Str} {c : Clo} {r : RL} : ws.length ≤ most → Vst fs (.inl (p, e)) fr S → Into fs S e p (.go c fr' ws' es) → LR fs most n (.inl c) (fr' ++ fr) (S ++ es) (ws ++ ws') r wf → LR fs most (n + 1) (.inl (p, e)) fr S ws r wf
  | intoW {n : Nat} {p : P} {e : Nat} {fr : List Fr} {S : Sto} {ws ws' wf : List Str} {w : Wt} {r : RL} : ws.length ≤ most → Vst fs (.inl (p, e)) fr S → Into fs S e p (.w w ws') → LR fs most n (.inr w) fr S (ws ++ ws') r wf → LR fs most (n + 1) (.inl (p, e)) fr S ws r wf
  | outG {n : Nat} {w : Wt} {f : Fr} {fr fr' : List Fr} {S es : Sto} {ws ws' wf : List Str} {c : Clo} {r : RL} : ws.length ≤ most → Vst fs (.inr w) (f :: fr) S → OutR fs S f w (.go c fr' ws' es) → LR fs most n (.inl c) (fr' ++ fr) (S ++ es) (ws ++ ws') r wf → LR fs most (n + 1) (.inr w) (f :: fr) S ws r wf
  | outW {n : Nat} {w w' : Wt} {f : Fr} {fr : List Fr} {S : Sto} {ws ws' wf : List Str} {r : RL} : ws.length ≤ most → Vst fs (.inr w) (f :: fr) S → OutR fs S f w (.w w' ws') → LR fs most n (.inr w') fr S (ws ++ ws') r wf → LR fs most (n + 1) (.inr w) (f :: fr) S ws r wf
  | outF {w : Wt} {f : Fr} {fr : List Fr} {S : Sto} {ws : List Str} {x : Str} : ws.length ≤ most → Vst fs (.inr w) (f :: fr) S → OutR fs S f w (.f x) → LR fs most 0 (.inr w) (f :: fr) S ws (.f x) ws
section
variable {fs : List Fn} {d : P} {most : Nat}
theorem LR.end {n : Nat} {c : Clo ⊕ Wt} {fr : List Fr} {S : Sto} {ws wf : List Str} {r : RL} (h : LR fs most n c fr S ws r wf) : ∀ {w : Wt} {S' : Sto}, r = .w w S' → Vst fs (.inr w) [] S' ∧ (∃ X, S' = S ++ X) ∧ wf.length ≤ most := by
  induction h with
  | more _ _ => intro w S' e; cases e
  | fin hl v => intro w S' e; cases e; exact ⟨v, ⟨[], (List.append_nil _).symm⟩, hl⟩
  | intoG _ _ _ _ ih =>
    intro w S' e
    obtain ⟨a, ⟨X, b⟩, c⟩ := ih e
    exact ⟨a, ⟨_, by rw [b, List.append_assoc]⟩, c⟩
  | intoW _ _ _ _ ih => intro w S' e; exact ih e
  | outG _ _ _ _ ih =>
    intro w S' e
    obtain ⟨a, ⟨X, b⟩, c⟩ := ih e
    exact ⟨a, ⟨_, by rw [b, List.append_assoc]⟩, c⟩
  | outW _ _ _ _ ih => intro w S' e; exact ih e
  | outF _ _ _ => intro w S' e; cases e
def mesC : Clo ⊕ Wt → Nat
  | .inl c => 2 * c.1.many
  | .inr _ => 1
def mesF : Fr → Nat
  | .op _ as _ => 2 * P.manys as.tail + 1
  | .sec _ _ => 1
def mes (c : Clo ⊕ Wt) (fr : List Fr) : Nat := mesC c + (fr.map mesF).sum
theorem mes_app (c : Clo ⊕ Wt) (f1 f2 : List Fr) : mes c (f1 ++ f2) = mesC c + (f1.map mesF).sum + (f2.map mesF).sum := by
  unfold mes
  rw [List.map_append, List.sum_append]
  omega
/-- what both come to is the same -/
def Rel (most : Nat) (ws ws' : List Str) : RL → Rs → List Str → Prop
  | .w w S', .w t, wf => t = mW S' w ∧ wf = ws ++ ws'
  | .f x, .f y, wf => x = y ∧ wf = ws ++ ws'
  | .more, .more, wf => wf.take most = ws ++ ws'
  | _, _, _ => False
theorem Rel.more {ws wx ws' : List Str} {r : RL} {rs : Rs} {wf : List Str} (h : Rel most (ws ++ wx) ws' r rs wf) : Rel most ws (wx ++ ws') r rs wf := by
  cases r <;> cases rs <;> first | exact h.elim | skip
  · exact ⟨h.1, by rw [h.2, List.append_assoc]⟩
  · exact ⟨h.1, by rw [h.2, List.append_assoc]⟩
  · show wf.take most = _
    rw [show wf.take most = _ from h, List.append_assoc]
theorem into_mes {S : Sto} {e : Nat} {p : P} {R : TR} (h : Into fs S e p R) : match R with
    | .go c fr ws es => ws = [] → mesC (.inl c) + (fr.map mesF).sum < 2 * p.many
    | .w w ws => ws = [] ∧ 1 < 2 * p.many
    | .f x => False := by
  cases h with
  | shut => intro e; cases e
  | num => exact ⟨rfl, by show 1 < 2 * 1; omega⟩
  | @pair a b => exact ⟨rfl, by have := many_pos (.op "pair" [a, b]); omega⟩
  | @nam x p j fl _ => intro e; cases fl <;> cases e
  | lett => intro e; cases e
  | call => intro e; cases e
  | fn _ _ => exact ⟨rfl, by show 1 < 2 * 1; omega⟩
  | @op k a as _ =>
    intro _
    have e1 : (P.op k (a :: as)).many = 1 + (a.many + P.manys as) := rfl
    show 2 * a.many + ([2 * P.manys as + 1] : List Nat).sum < _
    rw [e1]
    simp
    omega
theorem out_mes {S : Sto} {f : Fr} {w : Wt} {R : TR} (h : OutR fs S f w R) : match R with
    | .go c fr ws es => ws = [] → mesC (.inl c) + (fr.map mesF).sum < 1 + mesF f
    | .w w ws => ws = [] → 1 < 1 + mesF f
    | .f x => True := by
  cases h with
  | numb => intro e; cases e
  | great => exact True.intro
  | secF => exact True.intro
  | give => intro _; show 1 < 1 + (2 * _ + 1); omega
  | call => intro e; cases e
  | giveF => exact True.intro
  | side => intro e; cases e
  | sideF => exact True.intro
  | when => intro e; cases e
  | whenF => exact True.intro
  | @two k a b e i _ =>
    intro _
    show 2 * b.many + (1 + 0) < 1 + (2 * (b.many + 0) + 1)
    omega
  | twoF => exact True.intro
/-- the law's loop ends, and the steps of the whole part come to the same -/
theorem run_ex (pr : Pr10 fs d 60 12) (hnd : (fs.map (·.1)).Nodup) (hP : PrC fs) : ∀ (b m : Nat) (c : Clo ⊕ Wt) (fr : List Fr) (S : Sto) (ws : List Str), ws.length ≤ most → most + 1 - ws.length ≤ b → mes c fr ≤ m → SOk (fs.map (·.1)) S → FoOk fs S c → (∀ f, f ∈ fr → FrOk fs S f) → Ok10 fs 60 12 (whole c fr S) → (whole c fr S).deep + 12 * (most + 2 - ws.length) ≤ 30000 → S.length + (most + 2 - ws.length) ≤ 60000 →
    ∃ n r wf ws' rs, LR fs most n c fr S ws r wf ∧ Cm fs d most ws.length (whole c fr S) ws' rs ∧ Rel most ws ws' r rs wf := fun b => by
  induction b with
  | zero => intro m c fr S ws h1 h2; omega
  | succ b ihb =>
    intro m
    induction m with
    | zero =>
      intro c fr S ws _ _ hm
      have : 1 ≤ mesC c := by
        cases c with
        | inl c => have := many_pos c.1; show 1 ≤ 2 * c.1.many; omega
        | inr w => exact Nat.le_refl _
      unfold mes at hm
      omega
    | succ m ihm =>
      intro c fr S ws hwl hb hm hso hfo hfr hok hdp hsl
      have V : Vst fs c fr S := ⟨hso, hfo, hfr, hok, by omega, by omega⟩
      -- behind one turn
      have turn : ∀ (R : TR) (fr0 : List Fr), (∀ f, f ∈ fr0 → FrOk fs S f) → Tn fs d S (fr0.map (cF S)) (whole c fr S) R → (match R with
          | .go c' fr' wx es => wx = [] → mes (.inl c') (fr' ++ fr0) ≤ m
          | .w w wx => wx = [] → mes (.inr w) fr0 ≤ m
          | .f x => True) →
          (match R with
          | .go c' fr' wx es => ∃ n r wf ws' rs, LR fs most n (.inl c') (fr' ++ fr0) (S ++ es) (ws ++ wx) r wf ∧ Cm fs d most ws.length (whole c fr S) ws' rs ∧ Rel most ws ws' r rs wf
          | .w w wx => ∃ n r wf ws' rs, LR fs most n (.inr w) fr0 S (ws ++ wx) r wf ∧ Cm fs d most ws.length (whole c fr S) ws' rs ∧ Rel most ws ws' r rs wf
          | .f x => Cm fs d most ws.length (whole c fr S) [] (.f x)) := fun R fr0 hf0 T hme => by
        cases T with
        | @adm c' fr' es h1 h2 h3 h4 =>
          subst h4
          have hme := hme rfl
          rw [List.append_nil] at h1 h3
          rw [List.append_nil] at h2
          have e1 : whole (.inl c') (fr' ++ fr0) S = whole c fr S := by
            rw [← h3]
            show plugP ((fr' ++ fr0).map (cF S)) (mC S c') = _
            rw [List.map_append]
          obtain ⟨n, r, wf, ws', rs, l1, l2, l3⟩ := ihm (.inl c') (fr' ++ fr0) S ws hwl hb hme hso h1 (fun f mf => (List.mem_append.mp mf).elim (h2 f) (hf0 f)) (by rw [e1]; exact hok) (by rw [e1]; exact hdp) hsl
          rw [e1] at l2
          refine ⟨n, r, wf, ws', rs, ?_, l2, l3⟩
          show LR fs most n (.inl c') (fr' ++ fr0) (S ++ []) (ws ++ []) r wf
          rw [List.append_nil, List.append_nil]
          exact l1
        | @one c' es x h1 h2 h3 h4 =>
          have e1 : whole (.inl c') ([] ++ fr0) (S ++ es) = plugP (fr0.map (cF S)) (mC (S ++ es) c') := by
            show plugP (([] ++ fr0).map (cF (S ++ es))) (mC (S ++ es) c') = _
            rw [List.nil_append, (frs_app hf0 es).2]
          by_cases hl : ws.length = most
          · exact ⟨0, .more, ws ++ [x], [], .more, .more (by rw [List.length_append, hl]; exact Nat.lt_succ_self _) (by rw [List.length_append, hl]; exact Nat.le_succ _), .more h4 (by omega), by
              show (ws ++ [x]).take most = ws ++ []
              rw [← hl, List.take_left, List.append_nil]⟩
          · obtain ⟨g1, g2, g3⟩ := stepR_ok pr h4 rfl hok
            have hlen : (ws ++ [x]).length = ws.length + 1 := by rw [List.length_append]; rfl
            obtain ⟨n, r, wf, ws', rs, l1, l2, l3⟩ := ihb (mes (.inl c') ([] ++ fr0)) (.inl c') ([] ++ fr0) (S ++ es) (ws ++ [x]) (by omega) (by omega) (Nat.le_refl _) h1 h2 (frs_app hf0 es).1 (by rw [e1]; exact g1) (by rw [e1]; omega) (by rw [List.length_append]; omega)
            rw [e1, hlen] at l2
            exact ⟨n, r, wf, x :: ws', rs, l1, .s h4 (by omega) l2, l3.more⟩
        | @two c' x y U h2 h3 h4 =>
          have e1 : whole (.inl c') ([] ++ fr0) (S ++ []) = plugP (fr0.map (cF S)) (mC S c') := by
            show plugP (([] ++ fr0).map (cF (S ++ []))) (mC (S ++ []) c') = _
            rw [List.nil_append, List.append_nil]
          by_cases hl : ws.length = most
          · exact ⟨0, .more, ws ++ [x, y], [], .more, .more (by rw [List.length_append, hl]; show most < most + 2; omega) (by rw [List.length_append, hl]; exact Nat.le_refl _), .more h3 (by omega), by
              show (ws ++ [x, y]).take most = ws ++ []
              rw [← hl, List.take_left, List.append_nil]⟩
          · obtain ⟨g1, g2, g3⟩ := stepR_ok pr h3 rfl hok
            by_cases hl2 : ws.length + 1 = most
            · refine ⟨0, .more, ws ++ [x, y], [x], .more, .more (by rw [List.length_append]; show most < ws.length + 2; omega) (by rw [List.length_append]; show ws.length + 2 ≤ most + 2; omega), .s h3 (by omega) (.more h4 (by omega)), ?_⟩
              show (ws ++ [x, y]).take most = ws ++ [x]
              rw [← hl2, List.take_length_add_append]
              rfl
            · obtain ⟨k1, k2, k3⟩ := stepR_ok pr h4 rfl g1
              have hlen : (ws ++ [x, y]).length = ws.length + 1 + 1 := by rw [List.length_append]; rfl
              obtain ⟨n, r, wf, ws', rs, l1, l2, l3⟩ := ihb (mes (.inl c') ([] ++ fr0)) (.inl c') ([] ++ fr0) (S ++ []) (ws ++ [x, y]) (by omega) (by omega) (Nat.le_refl _) (by rw [List.append_nil]; exact hso) (by rw [List.append_nil]; exact h2) (by rw [List.append_nil]; exact hf0) (by rw [e1]; exact k1) (by rw [e1]; omega) (by rw [List.append_nil]; omega)
              rw [e1, hlen] at l2
              exact ⟨n, r, wf, x :: y :: ws', rs, l1, .s h3 (by omega) (.s h4 (by omega) l2), l3.more⟩
        | @worth w h1 h2 =>
          have hme := hme rfl
          have e1 : whole (.inr w) fr0 S = whole c fr S := h2
          obtain ⟨n, r, wf, ws', rs, l1, l2, l3⟩ := ihm (.inr w) fr0 S ws hwl hb hme hso h1 hf0 (by rw [e1]; exact hok) (by rw [e1]; exact hdp) hsl
          rw [e1] at l2
          exact ⟨n, r, wf, ws', rs, by rw [List.append_nil]; exact l1, l2, l3⟩
        | @worth1 w x h1 h4 =>
          have e1 : whole (.inr w) fr0 S = plugP (fr0.map (cF S)) (mW S w) := rfl
          by_cases hl : ws.length = most
          · exact ⟨0, .more, ws ++ [x], [], .more, .more (by rw [List.length_append, hl]; exact Nat.lt_succ_self _) (by rw [List.length_append, hl]; exact Nat.le_succ _), .more h4 (by omega), by
              show (ws ++ [x]).take most = ws ++ []
              rw [← hl, List.take_left, List.append_nil]⟩
          · obtain ⟨g1, g2, g3⟩ := stepR_ok pr h4 rfl hok
            have hlen : (ws ++ [x]).length = ws.length + 1 := by rw [List.length_append]; rfl
            obtain ⟨n, r, wf, ws', rs, l1, l2, l3⟩ := ihb (mes (.inr w) fr0) (.inr w) fr0 S (ws ++ [x]) (by omega) (by omega) (Nat.le_refl _) hso h1 hf0 (by rw [e1]; exact g1) (by rw [e1]; omega) (by omega)
            rw [e1, hlen] at l2
            exact ⟨n, r, wf, x :: ws', rs, l1, .s h4 (by omega) l2, l3.more⟩
        | fault h => exact .f h
      have hev : ∀ (fr : List Fr), (∀ f, f ∈ fr → FrOk fs S f) → ∀ x, x ∈ fr.map (cF S) → Ev x := fun fr h x mx => by
        obtain ⟨f, hf, rfl⟩ := List.mem_map.mp mx
        exact (h f hf).ev
      cases c with
      | inl pe =>
        obtain ⟨p, e⟩ := pe
        have hlt : ∀ nm as b, p = .lt nm as b → nm.length ≤ 60 := fun nm as b q => by
          subst q
          have h1 := ok_unplug _ (hev fr hfr) hok
          have h2 : P.mws (P.puts (thS S e) as) ≤ 60 := (show _ ∧ _ from h1.iv).1
          have h3 := mws_len (P.puts (thS S e) as)
          rw [puts_len] at h3
          have h4 : nm.length = as.length := (show nm.length = as.length ∧ _ from hfo.pc.ok).1
          omega
        obtain ⟨R, i1, t1⟩ := into_ex (d := d) hnd hP hso (hev fr hfr) hfo hlt
        have hme := into_mes i1
        have hm' : 2 * p.many + (fr.map mesF).sum ≤ m + 1 := hm
        have := turn R fr hfr t1 (by
          cases R with
          | go c' fr' wx es => intro e; have := hme e; rw [mes_app]; omega
          | w w wx => intro e; have := hme.2; show 1 + (fr.map mesF).sum ≤ m; omega
          | f x => exact hme.elim)
        cases R with
        | go c' fr' wx es =>
          obtain ⟨n, r, wf, ws', rs, l1, l2, l3⟩ := this
          exact ⟨n + 1, r, wf, ws', rs, .intoG hwl V i1 l1, l2, l3⟩
        | w w wx =>
          obtain ⟨n, r, wf, ws', rs, l1, l2, l3⟩ := this
          exact ⟨n + 1, r, wf, ws', rs, .intoW hwl V i1 l1, l2, l3⟩
        | f x => exact hme.elim
      | inr w =>
        cases fr with
        | nil => exact ⟨0, .w w S, ws, [], .w (mW S w), .fin hwl V, .w (mW_wb hnd hfo), rfl, (List.append_nil _).symm⟩
        | cons f fr =>
          have hf0 : ∀ g, g ∈ fr → FrOk fs S g := fun g mg => hfr g (List.mem_cons_of_mem _ mg)
          obtain ⟨R, i1, t1⟩ := out_ex (d := d) hnd hP hso (hev fr hf0) (hfr f List.mem_cons_self) hfo
          have hme := out_mes i1
          have hm' : 1 + (mesF f + (fr.map mesF).sum) ≤ m + 1 := hm
          have := turn R fr hf0 t1 (by
            cases R with
            | go c' fr' wx es => intro e; have := hme e; rw [mes_app]; omega
            | w w wx => intro e; have := hme e; show 1 + (fr.map mesF).sum ≤ m; omega
            | f x => exact True.intro)
          cases R with
          | go c' fr' wx es =>
            obtain ⟨n, r, wf, ws', rs, l1, l2, l3⟩ := this
            exact ⟨n + 1, r, wf, ws', rs, .outG hwl V i1 l1, l2, l3⟩
          | w w' wx =>
            obtain ⟨n, r, wf, ws', rs, l1, l2, l3⟩ := this
            exact ⟨n + 1, r, wf, ws', rs, .outW hwl V i1 l1, l2, l3⟩
          | f x => exact ⟨0, .f x, ws, [], .f x, .outF hwl V i1, this, rfl, (List.append_nil _).symm⟩
end
end Lz

set_option Elab.async false
set_option linter.all false
set_option maxRecDepth 100000
set_option maxHeartbeats 4000000
/-! A body closed by small parts: plain Lean. -/
namespace Lz
open PySem PySem.Spec PyProof.Rows L2
def sh3 : List P := [.num 3, .op "shut" [.num 2], .op "shut" [.op "shut" [.num 0]]]
mutual
/-- names but those of xs are replaced by one of three closed parts -/
def P.sh (xs : List Str) : P → P → Prop
  | .num i, t => t = .num i
  | .nam x, t => (x ∈ xs ∧ t = .nam x) ∨ (¬ x ∈ xs ∧ t ∈ sh3)
  | .fn f, t => t = .fn f
  | .op k as, t => ∃ bs, t = .op k bs ∧ P.shs xs as bs
  | .lt nm as b, t => ∃ bs c, t = .lt nm bs c ∧ P.shs (xs ++ nm) as bs ∧ P.sh (xs ++ nm) b c
def P.shs (xs : List Str) : List P → List P → Prop
  | [], l => l = []
  | a :: as, l => ∃ b bs, l = b :: bs ∧ P.sh xs a b ∧ P.shs xs as bs
end
theorem shs_snoc {xs : List Str} {a b : P} (h : P.sh xs a b) : ∀ {as bs : List P}, P.shs xs as bs → P.shs xs (as ++ [a]) (bs ++ [b])
  | [], bs, e => by
    have e' : bs = [] := e
    subst e'
    exact ⟨b, [], rfl, h, rfl⟩
  | x :: as, bs, ⟨y, r, e, h1, h2⟩ => by
    subst e
    exact ⟨y, r ++ [b], rfl, h1, shs_snoc h h2⟩
theorem sh3_facts {t : P} (h : t ∈ sh3) : t.mw = 1 ∧ t.dw = 1 ∧ (∀ xs, t.cl xs) ∧ P.nums t ∧ ∀ M D, 1 ≤ M → t.iv M D := by
  unfold sh3 at h
  simp only [List.mem_cons, List.not_mem_nil, or_false] at h
  have n0 : (0 : Int).natAbs < 10 ^ 60 := by decide +kernel
  have n2 : (2 : Int).natAbs < 10 ^ 60 := by decide +kernel
  have n3 : (3 : Int).natAbs < 10 ^ 60 := by decide +kernel
  have lz : ∀ (a : P) (M : Nat), a.mw = 1 → ∀ (j : Nat) (c : P), [a][j]? = some c → lzy "shut" j → c.mw ≤ 2 * M + 1 := fun a M e j c hc _ => by
    rw [List.mem_singleton.mp (List.mem_of_getElem? hc), e]
    omega
  rcases h with rfl | rfl | rfl
  · exact ⟨rfl, rfl, fun _ => True.intro, n3, fun _ _ _ => True.intro⟩
  · refine ⟨mw_shut _, ?_, fun xs => ?_, ⟨n2, True.intro⟩, fun M D _ => ⟨lz _ M rfl, True.intro, True.intro⟩⟩
    · show 1 + (if ("shut" : Str) = "shut" then 0 else _) = 1
      rw [if_pos rfl]
    · show P.cls (if ("shut" : Str) = "shut" then [] else xs) [.num 2]
      exact ⟨True.intro, True.intro⟩
  · refine ⟨mw_shut _, ?_, fun xs => ?_, ⟨⟨n0, True.intro⟩, True.intro⟩, fun M D _ => ⟨lz _ M (mw_shut _), ⟨lz _ M rfl, True.intro, True.intro⟩, True.intro⟩⟩
    · show 1 + (if ("shut" : Str) = "shut" then 0 else _) = 1
      rw [if_pos rfl]
    · show P.cls (if ("shut" : Str) = "shut" then [] else xs) [.op "shut" [.num 0]]
      refine ⟨?_, True.intro⟩
      show P.cls (if ("shut" : Str) = "shut" then [] else _) [.num 0]
      exact ⟨True.intro, True.intro⟩
mutual
theorem sh_size {xs : List Str} : ∀ (t t' : P), t.ok → P.sh xs t t' → t'.mw = t.mw ∧ t'.dw = t.dw
  | .num _, t', _, h => by
    have e : t' = _ := h
    rw [e]
    exact ⟨rfl, rfl⟩
  | .nam x, t', _, h => by
    rcases (show (x ∈ xs ∧ t' = .nam x) ∨ (¬ x ∈ xs ∧ t' ∈ sh3) from h) with ⟨_, e⟩ | ⟨_, m⟩
    · rw [e]
      exact ⟨rfl, rfl⟩
    · have := sh3_facts m
      exact ⟨this.1, this.2.1⟩
  | .fn _, t', _, h => by
    have e : t' = _ := h
    rw [e]
    exact ⟨rfl, rfl⟩
  | .op k as, t', ho, h => by
    obtain ⟨bs, e, h1⟩ := (show ∃ bs, t' = .op k bs ∧ P.shs xs as bs from h)
    have ho' : (k, as.length) ∈ kinds ∧ P.oks as := ho
    have hk := kind_not_shut ho'.1
    have q := shs_size as bs ho'.2 h1
    rw [e, mw_op hk, mw_op hk, dw_op hk, dw_op hk, q.1, q.2.1]
    exact ⟨rfl, rfl⟩
  | .lt nm as b, t', ho, h => by
    obtain ⟨bs, c, e, h1, h2⟩ := (show ∃ bs c, t' = .lt nm bs c ∧ P.shs (xs ++ nm) as bs ∧ P.sh (xs ++ nm) b c from h)
    have ho' : nm.length = as.length ∧ (∀ x, x ∈ nm → nmOk x) ∧ P.oks as ∧ P.ok b := ho
    have q := shs_size as bs ho'.2.2.1 h1
    have q2 := sh_size b c ho'.2.2.2 h2
    rw [e, mw_lt, mw_lt, q.1, q2.1]
    refine ⟨rfl, ?_⟩
    show 1 + max (P.dws bs) c.dw = 1 + max (P.dws as) b.dw
    rw [q.2.1, q2.2]
theorem shs_size {xs : List Str} : ∀ (as bs : List P), P.oks as → P.shs xs as bs → P.mws bs = P.mws as ∧ P.dws bs = P.dws as ∧ bs.length = as.length
  | [], bs, _, h => by
    have e : bs = [] := h
    rw [e]
    exact ⟨rfl, rfl, rfl⟩
  | a :: as, l, ho, h => by
    obtain ⟨b, bs, e, h1, h2⟩ := (show ∃ b bs, l = b :: bs ∧ P.sh xs a b ∧ P.shs xs as bs from h)
    have q := sh_size a b ho.1 h1
    have q2 := shs_size as bs ho.2 h2
    rw [e, mws_cons, mws_cons, q.1, q2.1]
    refine ⟨rfl, ?_, by rw [List.length_cons, List.length_cons, q2.2.2]⟩
    show max b.dw (P.dws bs) = max a.dw (P.dws as)
    rw [q.2, q2.2.1]
end
mutual
theorem sh_more {M D : Nat} (hM : 1 ≤ M) : ∀ (t t' : P) (xs : List Str), t.ok → P.sh xs t t' → P.nums t → t.mw ≤ M → t.dw ≤ D → t'.cl xs ∧ P.nums t' ∧ t'.iv M D
  | .num _, t', xs, _, h, hn, _, _ => by
    have e : t' = _ := h
    rw [e]
    exact ⟨True.intro, hn, True.intro⟩
  | .nam x, t', xs, _, h, _, _, _ => by
    rcases (show (x ∈ xs ∧ t' = .nam x) ∨ (¬ x ∈ xs ∧ t' ∈ sh3) from h) with ⟨hx, e⟩ | ⟨_, m⟩
    · rw [e]
      exact ⟨hx, True.intro, True.intro⟩
    · have := sh3_facts m
      exact ⟨this.2.2.1 xs, this.2.2.2.1, this.2.2.2.2 M D hM⟩
  | .fn _, t', xs, _, h, _, _, _ => by
    have e : t' = _ := h
    rw [e]
    exact ⟨True.intro, True.intro, True.intro⟩
  | .op k as, t', xs, ho, h, hn, hm, hd => by
    obtain ⟨bs, e, h1⟩ := (show ∃ bs, t' = .op k bs ∧ P.shs xs as bs from h)
    have ho' : (k, as.length) ∈ kinds ∧ P.oks as := ho
    have hk := kind_not_shut ho'.1
    rw [mw_op hk] at hm
    rw [dw_op hk] at hd
    have q := shs_size as bs ho'.2 h1
    obtain ⟨q1, q2, q3⟩ := shs_more (M := M) (D := D) hM as bs xs ho'.2 h1 hn (by omega) (by omega)
    rw [e]
    refine ⟨(cl_op hk).mpr q1, q2, fun j a hj _ => ?_, q3⟩
    have := mws_mem (List.mem_of_getElem? hj)
    omega
  | .lt nm as b, t', xs, ho, h, hn, hm, hd => by
    obtain ⟨bs, c, e, h1, h2⟩ := (show ∃ bs c, t' = .lt nm bs c ∧ P.shs (xs ++ nm) as bs ∧ P.sh (xs ++ nm) b c from h)
    have ho' : nm.length = as.length ∧ (∀ x, x ∈ nm → nmOk x) ∧ P.oks as ∧ P.ok b := ho
    have hn' : P.numss as ∧ P.nums b := hn
    rw [mw_lt] at hm
    have hd' : 1 + max (P.dws as) b.dw ≤ D := hd
    have q := shs_size as bs ho'.2.2.1 h1
    have qb := sh_size b c ho'.2.2.2 h2
    obtain ⟨q1, q2, q3⟩ := shs_more (M := M) (D := D) hM as bs (xs ++ nm) ho'.2.2.1 h1 hn'.1 (by omega) (by omega)
    obtain ⟨r1, r2, r3⟩ := sh_more (M := M) (D := D) hM b c (xs ++ nm) ho'.2.2.2 h2 hn'.2 (by omega) (by omega)
    rw [e]
    exact ⟨⟨q1, r1⟩, ⟨q2, r2⟩, ⟨by omega, by omega, by omega, by omega, q3, r3⟩⟩
theorem shs_more {M D : Nat} (hM : 1 ≤ M) : ∀ (as bs : List P) (xs : List Str), P.oks as → P.shs xs as bs → P.numss as → P.mws as ≤ M → P.dws as ≤ D → P.cls xs bs ∧ P.numss bs ∧ P.ivs M D bs
  | [], bs, xs, _, h, _, _, _ => by
    have e : bs = [] := h
    rw [e]
    exact ⟨True.intro, True.intro, True.intro⟩
  | a :: as, l, xs, ho, h, hn, hm, hd => by
    obtain ⟨b, bs, e, h1, h2⟩ := (show ∃ b bs, l = b :: bs ∧ P.sh xs a b ∧ P.shs xs as bs from h)
    rw [mws_cons] at hm
    have hd' : max a.dw (P.dws as) ≤ D := hd
    obtain ⟨q1, q2, q3⟩ := sh_more (M := M) (D := D) hM a b xs ho.1 h1 hn.1 (by omega) (by omega)
    obtain ⟨r1, r2, r3⟩ := shs_more (M := M) (D := D) hM as bs xs ho.2 h2 hn.2 (by omega) (by omega)
    rw [e]
    exact ⟨⟨q1, r1⟩, ⟨q2, r2⟩, ⟨q3, r3⟩⟩
end
end Lz

set_option Elab.async false
set_option linter.all false
set_option autoImplicit false
set_option maxRecDepth 100000
set_option maxHeartbeats 4000000
/-! What the law starts from: plain Lean. -/
namespace Lz
open PySem PySem.Spec PyProof.Rows L2
theorem word_ok {x : Str} (h : x = "open" ∨ x = "let" ∨ x = "call" ∨ x = "number" ∨ x = "turn" ∨ x = "side") : PyData.strOk x = true := by
  rcases h with rfl | rfl | rfl | rfl | rfl | rfl <;> decide +kernel
theorem fault_ok {x : Str} (h : x = "function" ∨ x = "number" ∨ x = "great" ∨ x = "pair") : PyData.strOk x = true := by
  rcases h with rfl | rfl | rfl | rfl <;> decide +kernel
theorem due_w {fs : List Fn} {d t u : P} {x : Str} (q : Due fs d t (.s x u)) : PyData.strOk x = true := by
  cases q <;> exact word_ok (by simp)
theorem due_f {fs : List Fn} {d t : P} {x : Str} (q : Due fs d t (.f x)) : PyData.strOk x = true := by
  cases q <;> exact fault_ok (by simp)
theorem step_lay {fs : List Fn} {d t : P} {o : Out} (h : StepR fs d t o) : (∀ x, o = .f x → PyData.strOk x = true) ∧ ∀ x u, o = .s x u → PyData.strOk x = true := by
  induction h with
  | here _ hd => exact ⟨fun x e => (nomatch e), fun x u e => by cases e; exact due_w hd⟩
  | fault _ hd => exact ⟨fun x e => (by cases e; exact due_f hd), fun x u e => (nomatch e)⟩
  | @inn k as a j o _ _ _ _ ih =>
    refine ⟨fun x e => ?_, fun x u e => ?_⟩
    · cases o with
      | f y => exact ih.1 x e
      | s y t => cases e
      | w t => cases e
      | inn n => cases e
    · cases o with
      | f y => cases e
      | s y t => cases e; exact ih.2 _ _ rfl
      | w t => cases e
      | inn n => cases e
/-- what is gone through at first -/
structure Row0 (fs : List Fn) (t : P) : Prop where
  ok : Ok10 fs 60 12 t
  mw : t.mw ≤ 60
  dp : t.deep ≤ 14
  rn : t.rown.Nodup
theorem sh3_rown {t : P} (h : t ∈ sh3) : t.rown = [] := by
  unfold sh3 at h
  simp only [List.mem_cons, List.not_mem_nil, or_false] at h
  rcases h with rfl | rfl | rfl <;> rfl
mutual
theorem sh_rown : ∀ (t t' : P) (xs : List Str), P.sh xs t t' → t'.rown = t.rown
  | .num _, t', _, h => by
    have e : t' = _ := h
    rw [e]
  | .nam x, t', xs, h => by
    rcases (show (x ∈ xs ∧ t' = .nam x) ∨ (¬ x ∈ xs ∧ t' ∈ sh3) from h) with ⟨_, e⟩ | ⟨_, m⟩
    · rw [e]
    · rw [sh3_rown m]; rfl
  | .fn _, t', _, h => by
    have e : t' = _ := h
    rw [e]
  | .op k as, t', xs, h => by
    obtain ⟨bs, e, h1⟩ := (show ∃ bs, t' = .op k bs ∧ P.shs xs as bs from h)
    rw [e]
    show P.rowns bs = P.rowns as
    exact shs_rown as bs xs h1
  | .lt nm as b, t', xs, h => by
    obtain ⟨bs, c, e, h1, h2⟩ := (show ∃ bs c, t' = .lt nm bs c ∧ P.shs (xs ++ nm) as bs ∧ P.sh (xs ++ nm) b c from h)
    rw [e]
    show nm ++ (P.rowns bs ++ P.rown c) = nm ++ (P.rowns as ++ P.rown b)
    rw [shs_rown as bs _ h1, sh_rown b c _ h2]
theorem shs_rown : ∀ (as bs : List P) (xs : List Str), P.shs xs as bs → P.rowns bs = P.rowns as
  | [], bs, _, h => by
    have e : bs = [] := h
    rw [e]
  | a :: as, l, xs, h => by
    obtain ⟨b, bs, e, h1, h2⟩ := (show ∃ b bs, l = b :: bs ∧ P.sh xs a b ∧ P.shs xs as bs from h)
    rw [e]
    show b.rown ++ P.rowns bs = a.rown ++ P.rowns as
    rw [sh_rown a b xs h1, shs_rown as bs xs h2]
end
theorem Row0.of_sh {fs : List Fn} {d : P} {g : Fn} {t' : P} (hf : Fits fs d) (m : g ∈ fnsOf fs d) (ho : t'.okS (fs.map (·.1))) (hs : P.sh [] g.2.2 t') (hd : t'.deep ≤ g.2.2.deep + 2) : Row0 fs t' := by
  have pr := hf.pr10
  have hb := hf.bd g m
  have hdd := hb.deep
  have h1 := sh_size g.2.2 t' hb.ok hs
  have h2 := sh_more (M := 60) (D := 12) (by decide) g.2.2 t' [] hb.ok hs (pr.nums g m) (pr.mw g m) (Nat.le_trans (dw_deep _) hdd)
  refine ⟨⟨ho, h2.1, h2.2.1, h2.2.2⟩, by rw [h1.1]; exact pr.mw g m, by omega, ?_⟩
  rw [sh_rown _ _ _ hs]
  have := hf.hid g m
  rw [List.nodup_append] at this
  exact this.2.1
theorem Row0.asked {fs : List Fn} {d : P} (hf : Fits fs d) : Row0 fs d := by
  have pr := hf.pr10
  have m : askedFn d ∈ fnsOf fs d := List.mem_append_right _ List.mem_cons_self
  have hd : d.deep ≤ 12 := (hf.bd _ m).deep
  have hn := hf.hid _ m
  rw [List.nodup_append] at hn
  exact ⟨⟨pr.ok _ m, pr.cl _ m, pr.nums _ m, pr.iv _ m⟩, pr.mw _ m, by omega, hn.2.1⟩
theorem Fits.prS {fs : List Fn} {d : P} (h : Fits fs d) (ok : PrOk fs d) : PrS fs d := ⟨ok, h.pr10.ok⟩
theorem Fits.prC {fs : List Fn} {d : P} (h : Fits fs d) : PrC fs := fun i g hi => by
  have m : g ∈ fnsOf fs d := List.mem_append_left _ (List.mem_of_getElem? hi)
  have pr := h.pr10
  exact ⟨pr.ok g m, pr.cl g m, h.hid g m, h.few g m⟩
abbrev S0 : Sto := [([], [])]
/-- both come to the same, from a closed part -/
theorem start {fs : List Fn} {d t : P} {most : Nat} (hp : Pr10 fs d 60 12) (hnd : (fs.map (·.1)).Nodup) (hc : PrC fs) (ho : Ok10 fs 60 12 t) (hr : t.rown.Nodup) (hd : t.deep + 12 * (most + 2) ≤ 30000) (hm : most ≤ 400) : ∃ n r wf ws rs, LR fs most n (.inl (t, 0)) [] S0 [] r wf ∧ Cm fs d most 0 t ws rs ∧ Rel most [] ws r rs wf := by
  have hS : SOk (fs.map (·.1)) S0 := fun i E th e => by
    cases i with
    | zero => cases e; exact ⟨Par.nil _, Nat.zero_le _⟩
    | succ i => cases e
  have hcl : CloOk (fs.map (·.1)) S0 (t, 0) := ⟨Nat.zero_lt_one, ⟨ho.ok, ⟨[], ho.cl, fun _ m => nomatch m⟩, hr, fun _ _ => rfl⟩⟩
  have e : whole (.inl (t, 0)) [] S0 = t := put_nil t
  have := run_ex (most := most) hp hnd hc (most + 1) (mes (.inl (t, 0)) []) (.inl (t, 0)) [] S0 [] (Nat.zero_le _) (Nat.sub_le _ _) (Nat.le_refl _) hS hcl (fun _ m => nomatch m) (by rw [e]; exact ho) (by rw [e]; exact hd) (by show 1 + (most + 2) ≤ 60000; omega)
  rw [e] at this
  exact this
theorem Cm.words {fs : List Fn} {d : P} {most n : Nat} {t : P} {ws : List Str} {r : Rs} (h : Cm fs d most n t ws r) : ∀ x, x ∈ ws → PyData.strOk x = true := by
  induction h with
  | w _ => intro x m; cases m
  | f _ => intro x m; cases m
  | more _ _ => intro x m; cases m
  | s h _ _ ih =>
    intro x m
    rcases List.mem_cons.mp m with rfl | m
    · exact (step_lay h).2 _ _ rfl
    · exact ih x m
/-- what is come to is a worth again, and a closed part -/
theorem Cm.fin {fs : List Fn} {d : P} {most n : Nat} {t : P} {ws : List Str} {r : Rs} (pr : Pr10 fs d 60 12) (h : Cm fs d most n t ws r) : Ok10 fs 60 12 t → (∀ u, r = .w u → wb fs u = true ∧ Ok10 fs 60 12 u ∧ u.deep ≤ t.deep + 12 * ws.length) ∧ ∀ x, r = .f x → PyData.strOk x = true := by
  induction h with
  | w h => intro g; exact ⟨fun u e => (by cases e; exact ⟨h, g, Nat.le_refl _⟩), fun x e => (by cases e)⟩
  | f h => intro _; exact ⟨fun u e => (by cases e), fun x e => (by cases e; exact (step_lay h).1 _ rfl)⟩
  | more _ _ => intro _; exact ⟨fun u e => (by cases e), fun x e => (by cases e)⟩
  | s h _ _ ih =>
    intro g
    obtain ⟨g1, g2, g3⟩ := stepR_ok pr h rfl g
    obtain ⟨i1, i2⟩ := ih g1
    refine ⟨fun u e => ?_, i2⟩
    obtain ⟨a, b, c⟩ := i1 u e
    exact ⟨a, b, by rw [List.length_cons]; omega⟩
end Lz

set_option Elab.async false
set_option linter.all false
set_option autoImplicit false
set_option maxRecDepth 100000
set_option maxHeartbeats 4000000
/-! Parts without shut ones in the law's loop; what is told to a depth: plain Lean. -/
namespace Lz
open PySem PySem.Spec PyProof.Rows L2
mutual
/-- nothing is shut -/
def P.nsh : P → Prop
  | .op k as => k ≠ "shut" ∧ P.nshs as
  | .lt _ as b => P.nshs as ∧ P.nsh b
  | .num _ => True
  | .nam _ => True
  | .fn _ => True
def P.nshs : List P → Prop
  | [] => True
  | a :: as => P.nsh a ∧ P.nshs as
end
theorem nshs_iff : ∀ {as : List P}, P.nshs as ↔ ∀ a, a ∈ as → a.nsh
  | [] => ⟨fun _ _ h => (nomatch h), fun _ => True.intro⟩
  | x :: xs => by
    show (P.nsh x ∧ P.nshs xs) ↔ _
    rw [nshs_iff]
    refine ⟨fun h d m => ?_, fun h => ⟨h x List.mem_cons_self, fun d m => h d (List.mem_cons_of_mem _ m)⟩⟩
    rcases List.mem_cons.mp m with e | m
    · rw [e]; exact h.1
    · exact h.2 d m
mutual
theorem nsh_ok : ∀ (t : P), t.ok → t.nsh
  | .num _, _ => True.intro
  | .nam _, _ => True.intro
  | .fn _, _ => True.intro
  | .op k as, h => ⟨kind_not_shut (show (k, as.length) ∈ kinds ∧ P.oks as from h).1, nshs_ok as (show (k, as.length) ∈ kinds ∧ P.oks as from h).2⟩
  | .lt nm as b, h => ⟨nshs_ok as (show nm.length = as.length ∧ (∀ x, x ∈ nm → nmOk x) ∧ P.oks as ∧ P.ok b from h).2.2.1, nsh_ok b (show nm.length = as.length ∧ (∀ x, x ∈ nm → nmOk x) ∧ P.oks as ∧ P.ok b from h).2.2.2⟩
theorem nshs_ok : ∀ (as : List P), P.oks as → P.nshs as
  | [], _ => True.intro
  | a :: as, h => ⟨nsh_ok a h.1, nshs_ok as h.2⟩
end
theorem P.nsh.hd {p : P} (h : p.nsh) : p.hd ≠ "shut" := by
  cases p with
  | num i => exact (show ("number" : Str) ≠ "shut" by decide +kernel)
  | nam i => exact (show ("name" : Str) ≠ "shut" by decide +kernel)
  | fn i => exact (show ("fun" : Str) ≠ "shut" by decide +kernel)
  | lt nm as b => exact (show ("let" : Str) ≠ "shut" by decide +kernel)
  | op k as => exact h.1
def EPl (E : Env) : Prop := ∀ x v, lookE E x = some v → v.1.nsh
def SPl (S : Sto) : Prop := ∀ i, EPl (envS S i)
def FPl : Fr → Prop
  | .op _ as _ => P.nshs as
  | .sec _ _ => True
def WPl : Wt → Prop
  | .num _ => True
  | .pair a b => a.1.nsh ∧ b.1.nsh
  | .fn _ l => ∀ c, c ∈ l → c.1.nsh
def CPl : Clo ⊕ Wt → Prop
  | .inl c => c.1.nsh
  | .inr w => WPl w
def PrPl (fs : List Fn) : Prop := ∀ (i : Nat) (g : Fn), fs[i]? = some g → g.2.2.nsh
theorem EPl.put {E : Env} (h : EPl E) {x : Str} {v : Ent} (hv : v.1.nsh) : EPl (putE E x v) := fun y u e => by
  rw [lookE_put] at e
  by_cases c : y = x
  · rw [if_pos c] at e
    cases e
    exact hv
  · rw [if_neg c] at e
    exact h y u e
theorem EPl.merge : ∀ {r : List (Str × Ent)} {E : Env}, EPl E → (∀ q, q ∈ r → q.2.1.nsh) → EPl (mergeE E r)
  | [], _, h, _ => h
  | q :: r, E, h, hr => EPl.merge (r := r) (h.put (hr q List.mem_cons_self)) (fun z m => hr z (List.mem_cons_of_mem _ m))
theorem EPl.nil : EPl [] := fun _ _ e => nomatch e
theorem SPl.add {S : Sto} (h : SPl S) {E : Env} {th : List (Str × P)} (he : EPl E) : SPl (S ++ [(E, th)]) := fun i => by
  by_cases hi : i < S.length
  · rw [envS_app hi]; exact h i
  · by_cases e : i = S.length
    · rw [e, envS_new]; exact he
    · unfold envS
      rw [List.getElem?_eq_none (by rw [List.length_append, List.length_singleton]; omega)]
      exact EPl.nil
theorem zip_snd {α β : Type} {xs : List α} {ys : List β} {q : α × β} (h : q ∈ xs.zip ys) : q.2 ∈ ys := zip_mem2 (x := q.1) (y := q.2) h
section
variable {fs : List Fn} {S : Sto} {most : Nat}
theorem into_pl (hf : PrPl fs) (hS : SPl S) {e : Nat} {p : P} {R : TR} (h : Into fs S e p R) (hp : p.nsh) : match R with
    | .go c fr ws es => c.1.nsh ∧ (∀ f, f ∈ fr → FPl f) ∧ SPl (S ++ es) ∧ es.length ≤ ws.length
    | .w w ws => WPl w
    | .f x => True := by
  cases h with
  | shut => exact absurd rfl hp.1
  | num => exact True.intro
  | pair => exact ⟨hp.2.1, hp.2.2.1⟩
  | @nam x p j fl hl => exact ⟨hS e x _ hl, (fun _ m => nomatch m), by rw [List.append_nil]; exact hS, Nat.zero_le _⟩
  | @lett nm as b =>
    have hp' : P.nshs as ∧ P.nsh b := hp
    refine ⟨hp'.2, (fun _ m => nomatch m), hS.add ((hS e).merge fun q m => ?_), Nat.le_refl _⟩
    obtain ⟨a, ha, e2⟩ := List.mem_map.mp (zip_snd m)
    rw [← e2]
    exact nshs_iff.mp hp'.1 a ha
  | call hi _ => exact ⟨hf _ _ hi, (fun _ m => nomatch m), hS.add EPl.nil, Nat.le_refl _⟩
  | fn _ _ => exact fun _ m => nomatch m
  | @op k a as _ =>
    exact ⟨hp.2.1, fun f m => by rw [List.mem_singleton.mp m]; exact hp.2, by rw [List.append_nil]; exact hS, Nat.zero_le _⟩
theorem out_pl (hf : PrPl fs) (hS : SPl S) {f : Fr} {w : Wt} {R : TR} (h : OutR fs S f w R) (hfr : FPl f) (hw : WPl w) : match R with
    | .go c fr ws es => c.1.nsh ∧ (∀ f, f ∈ fr → FPl f) ∧ SPl (S ++ es) ∧ es.length ≤ ws.length
    | .w w ws => WPl w
    | .f x => True := by
  have all : ∀ {l : List Clo} {b : P} {e : Nat}, (∀ c, c ∈ l → c.1.nsh) → b.nsh → ∀ c, c ∈ l ++ [(b, e)] → c.1.nsh := fun h1 h2 c m => by
    rcases List.mem_append.mp m with m | m
    · exact h1 c m
    · rw [List.mem_singleton.mp m]; exact h2
  cases h with
  | numb => exact True.intro
  | great => exact True.intro
  | secF => exact True.intro
  | give => exact all hw hfr.2.1
  | call hi _ =>
    refine ⟨hf _ _ hi, (fun _ m => nomatch m), hS.add (EPl.nil.merge fun q m => ?_), Nat.le_refl _⟩
    obtain ⟨a, ha, e2⟩ := List.mem_map.mp (zip_snd m)
    rw [← e2]
    exact all hw hfr.2.1 a ha
  | giveF => exact True.intro
  | @side k a e x y _ =>
    refine ⟨?_, (fun _ m => nomatch m), by rw [List.append_nil]; exact hS, Nat.zero_le _⟩
    by_cases h : k = "left"
    · rw [if_pos h]; exact hw.1
    · rw [if_neg h]; exact hw.2
  | sideF => exact True.intro
  | @when a b c e i =>
    refine ⟨?_, (fun _ m => nomatch m), by rw [List.append_nil]; exact hS, Nat.zero_le _⟩
    show P.nsh (if i ≠ 0 then b else c)
    by_cases h : i ≠ 0
    · rw [if_pos h]; exact hfr.2.1
    · rw [if_neg h]; exact hfr.2.2.1
  | whenF => exact True.intro
  | two => exact ⟨hfr.2.1, fun f m => by rw [List.mem_singleton.mp m]; exact True.intro, by rw [List.append_nil]; exact hS, Nat.zero_le _⟩
  | twoF => exact True.intro
theorem into_es {e : Nat} {p : P} {c : Clo} {fr : List Fr} {ws : List Str} {es : Sto} (h : Into fs S e p (.go c fr ws es)) : es.length ≤ ws.length := by
  cases h with
  | shut => exact Nat.le_refl _
  | nam => exact Nat.zero_le _
  | lett => exact Nat.le_refl _
  | call => exact Nat.le_refl _
  | op => exact Nat.zero_le _
theorem out_es {f : Fr} {w : Wt} {c : Clo} {fr : List Fr} {ws : List Str} {es : Sto} (h : OutR fs S f w (.go c fr ws es)) : es.length ≤ ws.length := by
  cases h with
  | call => exact Nat.le_refl _
  | side => exact Nat.zero_le _
  | when => exact Nat.zero_le _
  | two => exact Nat.zero_le _
theorem LR.slen {n : Nat} {c : Clo ⊕ Wt} {fr : List Fr} {S : Sto} {ws wf : List Str} {r : RL} (h : LR fs most n c fr S ws r wf) : ∀ {w : Wt} {S' : Sto}, r = .w w S' → S'.length + ws.length ≤ S.length + wf.length := by
  induction h with
  | more _ _ => intro w S' e; cases e
  | fin hl v => intro w S' e; cases e; omega
  | intoG _ _ hi _ ih =>
    intro w S' e
    have h1 := ih e
    have h2 := into_es hi
    rw [List.length_append, List.length_append] at h1
    omega
  | intoW _ _ _ _ ih =>
    intro w S' e
    have h1 := ih e
    rw [List.length_append] at h1
    omega
  | outG _ _ hi _ ih =>
    intro w S' e
    have h1 := ih e
    have h2 := out_es hi
    rw [List.length_append, List.length_append] at h1
    omega
  | outW _ _ _ _ ih =>
    intro w S' e
    have h1 := ih e
    rw [List.length_append] at h1
    omega
  | outF _ _ _ => intro w S' e; cases e
theorem LR.plain (hf : PrPl fs) {n : Nat} {c : Clo ⊕ Wt} {fr : List Fr} {S : Sto} {ws wf : List Str} {r : RL} (h : LR fs most n c fr S ws r wf) : CPl c → (∀ f, f ∈ fr → FPl f) → SPl S → ∀ {w : Wt} {S' : Sto}, r = .w w S' → WPl w ∧ SPl S' := by
  induction h with
  | more _ _ => intro _ _ _ w S' e; cases e
  | fin hl v => intro a _ b w S' e; cases e; exact ⟨a, b⟩
  | intoG _ _ hi _ ih =>
    intro a b c w S' e
    obtain ⟨h1, h2, h3, _⟩ := into_pl hf c hi a
    exact ih h1 (fun f m => (List.mem_append.mp m).elim (h2 f) (b f)) h3 e
  | intoW _ _ hi _ ih =>
    intro a b c w S' e
    exact ih (into_pl hf c hi a) b c e
  | outG _ _ hi _ ih =>
    intro a b c w S' e
    obtain ⟨h1, h2, h3, _⟩ := out_pl hf c hi (b _ List.mem_cons_self) a
    exact ih h1 (fun f m => (List.mem_append.mp m).elim (h2 f) (fun m => b f (List.mem_cons_of_mem _ m))) h3 e
  | outW _ _ hi _ ih =>
    intro a b c w S' e
    exact ih (out_pl hf c hi (b _ List.mem_cons_self) a) (fun f m => b f (List.mem_cons_of_mem _ m)) c e
  | outF _ _ _ => intro _ _ _ w S' e; cases e
end
/-! ### told to a depth -/
inductive Fl where
  | num (i : Int)
  | pair
  | fn (f : Str) (n : Nat)
  | f (x : Str)
  | more
  deriving DecidableEq
inductive FlR : Rs → Fl → Prop
  | num {i : Int} : FlR (.w (.num i)) (.num i)
  | pair {a b : P} : FlR (.w (.op "pair" [a, b])) .pair
  | fn {f : Str} {t : P} {ts : List P} : Gv t (.fn f) ts → ts.length ≤ 30000 → FlR (.w t) (.fn f ts.length)
  | f {x : Str} : FlR (.f x) (.f x)
  | more : FlR .more .more
inductive Td where
  | fl (l : Fl)
  | pair (a b : Td)
/-- what a closed part comes to, told so deep -/
inductive TdR (fs : List Fn) (d : P) (most : Nat) : Nat → P → Td → Prop
  | fl {n : Nat} {t : P} {ws : List Str} {r : Rs} {l : Fl} : Cm fs d most 0 t ws r → FlR r l → (n = 0 ∨ l ≠ .pair) → TdR fs d most n t (.fl l)
  | pair {n : Nat} {t a b : P} {ws : List Str} {x y : Td} : Cm fs d most 0 t ws (.w (.op "pair" [a, b])) → TdR fs d most n a x → TdR fs d most n b y → TdR fs d most (n + 1) t (.pair x y)
def Td.less : Nat → Td → Td
  | _, .fl l => .fl l
  | 0, .pair _ _ => .fl .pair
  | n + 1, .pair a b => .pair (Td.less n a) (Td.less n b)
theorem TdR.lessR {fs : List Fn} {d : P} {most : Nat} : ∀ {n : Nat} {t : P} {x : Td}, TdR fs d most (n + 1) t x → TdR fs d most n t (x.less n)
  | n, t, .fl l, h => by
    cases h with
    | fl h1 h2 h3 =>
      have h4 : l ≠ .pair := h3.resolve_left (Nat.succ_ne_zero _)
      cases n <;> exact .fl h1 h2 (.inr h4)
  | 0, t, .pair a b, h => by
    cases h with
    | pair h1 _ _ => exact .fl h1 .pair (.inl rfl)
  | n + 1, t, .pair a b, h => by
    cases h with
    | pair h1 h2 h3 => exact .pair h1 h2.lessR h3.lessR
end Lz

set_option Elab.async false
set_option linter.all false
set_option maxRecDepth 100000
set_option maxHeartbeats 8000000
namespace Lz
open PySem PySem.Spec PyProof.Rows L2
def Fl.data : Fl → PyData
  | .num i => .tuple [.str "number", .int i]
  | .pair => .tuple [.str "pair"]
  | .fn g n => .tuple [.str "function", .str g, .int (n : Nat)]
  | .f x => .tuple [.str "fault", .str x]
  | .more => .tuple [.str "more"]
theorem Fl.fz : ∀ r : Fl, fz r.data = true
  | .num _ => rfl
  | .pair => rfl
  | .fn _ _ => rfl
  | .f _ => rfl
  | .more => rfl
theorem Gv.hdf {t : Lz.P} {f : Str} {ts : List Lz.P} (g : Gv t (.fn f) ts) : t.hd ≠ "number" ∧ t.hd ≠ "pair" := by
  cases g with
  | stop _ => exact ⟨(show ("fun" : Str) ≠ "number" by decide +kernel), (show ("fun" : Str) ≠ "pair" by decide +kernel)⟩
  | give _ => exact ⟨(show ("give" : Str) ≠ "number" by decide +kernel), (show ("give" : Str) ≠ "pair" by decide +kernel)⟩
def spFlat (K : PySem.W.Frag) : Sp := fun vs H Q _ => ∃ (v : V) (r : Rs) (l : Fl), vs = [v] ∧ Dp K H v r.data ∧ FlR r l ∧ ∀ (v' : V) (H' : Hp), Kp [] H H' → Dp K H' v' l.data → Q v' H'
section
variable {P : Program} {w : World} {K : PySem.W.Frag} {mg : Str → Option Value} {base : Heap} {f : Addr} {fd : FuncData}
abbrev sFlat : Stmt := topS 32
theorem scFlat : FnScope ["come", "worth", "head", "things"] ["come"] (defScope sFlat) := ⟨rfl, rfl, rfl, by decide +kernel, rfl, by decide +kernel, by decide +kernel⟩
theorem ok_flat (F : Fun K "flat" "flat" sFlat f fd) (B : Bt mg) (CGiven : C8.Cal P w K mg base 1 "given" (spGiven K) []) : FnOk P w K mg base CX0 2 f fd ["come"] (spFlat K) := by
  have ml := B.len
  refine F.ok scFlat (fun vs H Q E h => ?_) (fun cdv A outer s H vs Q E hr h => ?_)
  · obtain ⟨v, r, l, rfl, _⟩ := h
    rfl
  obtain ⟨v, r, l, rfl, hd, hl, q⟩ := h
  refine ⟨_, (pss_cons (ps_if (pt_cmpR op_ne (pe_ix (ix_tupK (K := K) rfl) (pv 0) pe_int (fun _ _ => rfl)) pe_str (nomark _)) (pss_one (ps_ret (pv 0))) pss_nil)
    (pss_cons (ps_set (i := 1) scFlat.nd rfl (.inl rfl) (pe_ix (ix_tupK (K := K) rfl) (pv 0) pe_int (fun _ _ => rfl)))
    (pss_cons (ps_if (pt_cmpR op_eq (pe_ix (ix_tupK (K := K) rfl) (pv 1) pe_int (fun _ _ => rfl)) pe_str (nomark _)) (pss_one (ps_ret (pe_tup (pa_cons pe_str (pa_cons (pe_ix (ix_tupK (K := K) rfl) (pv 1) pe_int (fun _ _ => rfl)) pa_nil))))) pss_nil)
    (pss_cons (ps_if (pt_cmpR op_eq (pe_ix (ix_tupK (K := K) rfl) (pv 1) pe_int (fun _ _ => rfl)) pe_str (nomark _)) (pss_one (ps_ret (pe_tup (pa_cons pe_str pa_nil)))) pss_nil)
    (pss_cons (ps_asg (C8.pe_c CGiven hr (by first | decide | omega) (by rfl) (pa_cons (pv 1) pa_nil)) (pg_tupK (K := K) (n := 2) rfl rfl (pgs_cons (pg_name (i := 2) scFlat.nd rfl (.inl rfl)) (pgs_cons (pg_name (i := 3) scFlat.nd rfl (.inl rfl)) pgs_nil))))
    (pss_one (ps_ret (pe_tup (pa_cons pe_str (pa_cons (pe_ix (ix_tupK (K := K) rfl) (pv 2) pe_int (fun _ _ => rfl)) (pa_cons (pe_callB (call_lenK (K := K) rfl) (by rfl) ml PySem.boot_len (pa_cons (pv 3) pa_nil)) pa_nil))))))))))), ?_⟩
  cases hl with
  | @f x =>
    obtain ⟨pt, zs, rfl, hpt, hzs⟩ := Dp.tup_of (ds := [.str "fault", .str x]) hd
    obtain ⟨z1, r1, rfl, hz1, hz2⟩ := DpAll.unconsE hzs
    cases hz1
    refine ⟨_, rfl, pt, _, _, _, rfl, rfl, hpt, at_of (j := 0) rfl rfl, rfl, _, rfl, ?_⟩
    refine ite2 (fun _ => ?_) (fun c => absurd (by decide +kernel) c)
    exact ⟨_, rfl, q _ _ (Kp.refl _ _) hd⟩
  | more =>
    obtain ⟨pt, zs, rfl, hpt, hzs⟩ := Dp.tup_of (ds := [.str "more"]) hd
    obtain ⟨z1, r1, rfl, hz1, hz2⟩ := DpAll.unconsE hzs
    cases hz1
    refine ⟨_, rfl, pt, _, _, _, rfl, rfl, hpt, at_of (j := 0) rfl rfl, rfl, _, rfl, ?_⟩
    refine ite2 (fun _ => ?_) (fun c => absurd (by decide +kernel) c)
    exact ⟨_, rfl, q _ _ (Kp.refl _ _) hd⟩
  | @num i =>
    obtain ⟨pt, zs, rfl, hpt, hzs⟩ := Dp.tup_of (ds := [.str "worth", (Lz.P.num i).data]) hd
    obtain ⟨z1, r1, rfl, hz1, hz2⟩ := DpAll.unconsE hzs
    obtain ⟨z2, r2, rfl, hzd, hz3⟩ := DpAll.unconsE hz2
    cases hz1
    cases hz3
    refine ⟨_, rfl, pt, _, _, _, rfl, rfl, hpt, at_of (j := 0) rfl rfl, rfl, _, rfl, ?_⟩
    refine ite2 (fun c => absurd c (by simp)) (fun _ => ?_)
    refine ⟨_, rfl, pt, _, _, _, rfl, rfl, hpt, at_of (j := 1) rfl rfl, ?_⟩
    obtain ⟨pa, ya, rfl, hta, hya⟩ := hd_at hzd
    obtain ⟨vi, y2, rfl, hvi, hy2⟩ := DpAll.unconsE (show DpAll K H ya [.int i] from hya)
    cases hvi
    cases hy2
    refine ⟨_, rfl, pa, _, _, _, rfl, rfl, hta, at_of (j := 0) rfl rfl, rfl, _, rfl, ?_⟩
    refine ite2 (fun _ => ?_) (fun c => absurd (decide_eq_true rfl) c)
    refine ⟨_, rfl, pa, _, _, _, rfl, rfl, hta, at_of (j := 1) rfl rfl, (by show 2 ≤ sizeLine; decide), fun T hT => ?_⟩
    exact q _ _ (Kp.new hT) (Dp.newT hT (.cons (.str _) (.cons (.int _) .nil)) rfl)
  | @pair a b =>
    obtain ⟨pt, zs, rfl, hpt, hzs⟩ := Dp.tup_of (ds := [.str "worth", (Lz.P.op "pair" [a, b]).data]) hd
    obtain ⟨z1, r1, rfl, hz1, hz2⟩ := DpAll.unconsE hzs
    obtain ⟨z2, r2, rfl, hzd, hz3⟩ := DpAll.unconsE hz2
    cases hz1
    cases hz3
    refine ⟨_, rfl, pt, _, _, _, rfl, rfl, hpt, at_of (j := 0) rfl rfl, rfl, _, rfl, ?_⟩
    refine ite2 (fun c => absurd c (by simp)) (fun _ => ?_)
    refine ⟨_, rfl, pt, _, _, _, rfl, rfl, hpt, at_of (j := 1) rfl rfl, ?_⟩
    obtain ⟨pa, ya, rfl, hta, hya⟩ := hd_at hzd
    refine ⟨_, rfl, pa, _, _, _, rfl, rfl, hta, at_of (j := 0) rfl rfl, rfl, _, rfl, ?_⟩
    refine ite2 (fun c => absurd (V.str.inj (of_decide_eq_true c)) (show ¬ ("pair" : Str) = "number" by decide +kernel)) (fun _ => ?_)
    refine ⟨_, rfl, pa, _, _, _, rfl, rfl, hta, at_of (j := 0) rfl rfl, rfl, _, rfl, ?_⟩
    refine ite2 (fun _ => ?_) (fun c => absurd (decide_eq_true rfl) c)
    refine ⟨(by show 1 ≤ sizeLine; decide), fun T hT => ?_⟩
    exact q _ _ (Kp.new hT) (Dp.newT hT (.cons (.str _) .nil) rfl)
  | @fn g t ts hg hlen =>
    obtain ⟨pt, zs, rfl, hpt, hzs⟩ := Dp.tup_of (ds := [.str "worth", t.data]) hd
    obtain ⟨z1, r1, rfl, hz1, hz2⟩ := DpAll.unconsE hzs
    obtain ⟨z2, r2, rfl, hzd, hz3⟩ := DpAll.unconsE hz2
    cases hz1
    cases hz3
    refine ⟨_, rfl, pt, _, _, _, rfl, rfl, hpt, at_of (j := 0) rfl rfl, rfl, _, rfl, ?_⟩
    refine ite2 (fun c => absurd c (by simp)) (fun _ => ?_)
    refine ⟨_, rfl, pt, _, _, _, rfl, rfl, hpt, at_of (j := 1) rfl rfl, ?_⟩
    obtain ⟨pa, ya, rfl, hta, hya⟩ := hd_at hzd
    refine ⟨_, rfl, pa, _, _, _, rfl, rfl, hta, at_of (j := 0) rfl rfl, rfl, _, rfl, ?_⟩
    refine ite2 (fun c => absurd (V.str.inj (of_decide_eq_true c)) hg.hdf.1) (fun _ => ?_)
    refine ⟨_, rfl, pa, _, _, _, rfl, rfl, hta, at_of (j := 0) rfl rfl, rfl, _, rfl, ?_⟩
    refine ite2 (fun c => absurd (V.str.inj (of_decide_eq_true c)) hg.hdf.2) (fun _ => ?_)
    refine ⟨_, rfl, .ref pa, t, _, ts, rfl, hzd, hg, hlen, fun p2 hv l xs H1 k1 hp2 hhv hl1 hxs => ?_⟩
    obtain ⟨ah, e, hth⟩ := str_at hhv rfl
    subst e
    refine ⟨p2, _, rfl, SqT.of hp2, rfl, _, _, rfl, _, _, rfl, rfl, ?_⟩
    have hxl : xs.length = ts.length := by rw [hxs.length, datas_len]
    refine ⟨_, rfl, ah, _, _, _, rfl, rfl, hth, at_of (j := 1) rfl rfl, _, rfl, l, xs, rfl, .inl (SqL.of hl1), (by show 3 ≤ sizeLine; decide), fun T hT => ?_⟩
    rw [hxl]
    exact q _ _ (k1.trans (Kp.new hT)) (Dp.newT hT (.cons (.str _) (.cons (.str _) (.cons (.int _) .nil))) rfl)
end
end Lz

set_option Elab.async false
set_option linter.all false
set_option autoImplicit false
set_option maxRecDepth 100000
set_option maxHeartbeats 4000000
/-! What the law's own putting in has in the heap. -/
namespace Lz
open PySem PySem.Spec PyProof.Rows L2
inductive All2 {α : Type} (R : V → α → Prop) : List V → List α → Prop
  | nil : All2 R [] []
  | cons {v : V} {a : α} {vs : List V} {as : List α} : R v a → All2 R vs as → All2 R (v :: vs) (a :: as)
section
variable {α : Type} {R R' : V → α → Prop}
theorem All2.mono (k : ∀ v a, R v a → R' v a) {vs : List V} {as : List α} (h : All2 R vs as) : All2 R' vs as := by
  induction h with
  | nil => exact .nil
  | cons a _ ih => exact .cons (k _ _ a) ih
theorem All2.length {vs : List V} {as : List α} (h : All2 R vs as) : vs.length = as.length := by
  induction h with
  | nil => rfl
  | cons _ _ ih => rw [List.length_cons, List.length_cons, ih]
theorem All2.snoc {vs : List V} {as : List α} {v : V} {a : α} (h : All2 R vs as) (k : R v a) : All2 R (vs ++ [v]) (as ++ [a]) := by
  induction h with
  | nil => exact .cons k .nil
  | cons x _ ih => exact .cons x ih
theorem All2.unsnoc {a : α} : ∀ {vs : List V} {as : List α}, All2 R vs (as ++ [a]) → ∃ vi v, vs = vi ++ [v] ∧ All2 R vi as ∧ R v a
  | _, [], h => by
    cases h with
    | cons x y =>
      cases y
      exact ⟨[], _, rfl, .nil, x⟩
  | _, b :: as, h => by
    cases h with
    | cons x y =>
      obtain ⟨vi, v, e, h1, h2⟩ := All2.unsnoc y
      exact ⟨_ :: vi, v, by rw [e]; rfl, .cons x h1, h2⟩
theorem All2.get {vs : List V} {as : List α} (h : All2 R vs as) {i : Nat} {v : V} (e : vs[i]? = some v) : ∃ a, as[i]? = some a ∧ R v a := by
  induction h generalizing i with
  | nil => simp at e
  | cons x _ ih =>
    cases i with
    | zero =>
      obtain rfl := Option.some.inj e
      exact ⟨_, rfl, x⟩
    | succ i => exact ih e
end
section
variable {K : PySem.W.Frag} {H H' : Hp} {S : List Addr}
/-- a part that goes with names -/
def CloV (K : PySem.W.Frag) (H : Hp) (as : List Addr) (v : V) (c : Clo) : Prop := ∃ (T : Addr) (vp : V) (a : Addr), v = .ref T ∧ SqT K H T [vp, .ref a] ∧ Dp K H vp c.1.data ∧ as[c.2]? = some a
def EnV (K : PySem.W.Frag) (H : Hp) (as : List Addr) (v : V) (e : Ent) : Prop := ∃ (T : Addr) (vp : V) (a : Addr), v = .ref T ∧ SqT K H T [vp, .ref a, .bl e.2.2] ∧ Dp K H vp e.1.data ∧ as[e.2.1]? = some a
theorem get_app {as : List Addr} {i : Nat} {a : Addr} (h : as[i]? = some a) (xs : List Addr) : (as ++ xs)[i]? = some a := by
  rw [List.getElem?_append_left (List.getElem?_eq_some_iff.mp h).1]
  exact h
theorem CloV.keepT {as : List Addr} {v : V} {c : Clo} (h : CloV K H as v c) (k : Tk K H H') (xs : List Addr) : CloV K H' (as ++ xs) v c := by
  obtain ⟨T, vp, a, e, h1, h2, h3⟩ := h
  exact ⟨T, vp, a, e, k _ _ h1, Dp.keepT k _ _ (data_fz _) h2, get_app h3 xs⟩
theorem EnV.keepT {as : List Addr} {v : V} {c : Ent} (h : EnV K H as v c) (k : Tk K H H') (xs : List Addr) : EnV K H' (as ++ xs) v c := by
  obtain ⟨T, vp, a, e, h1, h2, h3⟩ := h
  exact ⟨T, vp, a, e, k _ _ h1, Dp.keepT k _ _ (data_fz _) h2, get_app h3 xs⟩
theorem CloV.keep {as : List Addr} {v : V} {c : Clo} (h : CloV K H as v c) (k : Kp S H H') (xs : List Addr) : CloV K H' (as ++ xs) v c := h.keepT (.of k) xs
theorem CloV.keep0 {as : List Addr} {v : V} {c : Clo} (h : CloV K H as v c) (k : Kp S H H') : CloV K H' as v c := by
  have := h.keep k []
  rwa [List.append_nil] at this
/-- names and what they go with, as a dict has them -/
inductive EdAll (K : PySem.W.Frag) (H : Hp) (as : List Addr) : List (Key × V) → Env → Prop
  | nil : EdAll K H as [] []
  | cons {x : Str} {v : V} {e : Ent} {kvs : List (Key × V)} {E : Env} : EnV K H as v e → EdAll K H as kvs E → EdAll K H as ((.inr x, v) :: kvs) ((x, e) :: E)
theorem EdAll.keepT {as : List Addr} {kvs : List (Key × V)} {E : Env} (h : EdAll K H as kvs E) (k : Tk K H H') (xs : List Addr) : EdAll K H' (as ++ xs) kvs E := by
  induction h with
  | nil => exact .nil
  | cons a _ ih => exact .cons (a.keepT k xs) ih
theorem EdAll.length {as : List Addr} {kvs : List (Key × V)} {E : Env} (h : EdAll K H as kvs E) : kvs.length = E.length := by
  induction h with
  | nil => rfl
  | cons _ _ ih => rw [List.length_cons, List.length_cons, ih]
theorem EdAll.get {as : List Addr} {kvs : List (Key × V)} {E : Env} (h : EdAll K H as kvs E) {x : Str} {e : Ent} (he : lookE E x = some e) : ∃ v, valV kvs (.inr x) = some v ∧ EnV K H as v e := by
  induction h with
  | nil => cases he
  | @cons y v e' kvs E a _ ih =>
    by_cases c : y = x
    · subst c
      rw [lookE_pos rfl] at he
      obtain rfl := Option.some.inj he
      exact ⟨v, valV_pos rfl, a⟩
    · rw [lookE_neg c] at he
      have e1 : valV ((.inr y, v) :: kvs) (Sum.inr x : Key) = valV kvs (.inr x) := valV_neg fun q => c (Sum.inr.inj q)
      rw [e1]
      exact ih he
theorem EdAll.any {as : List Addr} {kvs : List (Key × V)} {E : Env} (h : EdAll K H as kvs E) (x : Str) : (kvs.any fun kv => decide (kv.1 = (Sum.inr x : Key))) = E.any fun q => decide (q.1 = x) := by
  induction h with
  | nil => rfl
  | @cons y v p kvs th a _ ih =>
    rw [List.any_cons, List.any_cons, ih]
    congr 1
    rw [Bool.eq_iff_iff, decide_eq_true_iff, decide_eq_true_iff]
    exact ⟨fun e => Sum.inr.inj e, fun e => congrArg Sum.inr e⟩
theorem EdAll.append {as : List Addr} {k1 k2 : List (Key × V)} {t1 t2 : Env} (h : EdAll K H as k1 t1) (g : EdAll K H as k2 t2) : EdAll K H as (k1 ++ k2) (t1 ++ t2) := by
  induction h with
  | nil => exact g
  | cons a _ ih => exact .cons a ih
theorem EdAll.putF {as : List Addr} {kvs : List (Key × V)} {E : Env} (h : EdAll K H as kvs E) {x : Str} {v : V} {e : Ent} (hv : EnV K H as v e) : EdAll K H as (putK kvs (.inr x) v) (putE E x e) := by
  unfold putK putE
  rw [h.any x]
  by_cases c : (E.any fun q => decide (q.1 = x)) = true
  · rw [if_pos c, if_pos c]
    clear c
    induction h with
    | nil => exact .nil
    | @cons y u r kvs th a _ ih =>
      rw [List.map_cons, List.map_cons]
      by_cases e : y = x
      · rw [if_pos (show (Sum.inr y : Key) = .inr x from congrArg Sum.inr e), if_pos e]
        exact .cons hv ih
      · rw [if_neg (show ¬ (Sum.inr y : Key) = .inr x from fun z => e (Sum.inr.inj z)), if_neg e]
        exact .cons a ih
  · rw [if_neg c, if_neg c]
    exact h.append (.cons hv .nil)
/-- all that names go with -/
structure StoAt (K : PySem.W.Frag) (H : Hp) (as : List Addr) (S : Sto) : Prop where
  len : as.length = S.length
  at_ : ∀ (i : Nat) (E : Env) th a, S[i]? = some (E, th) → as[i]? = some a → ∃ kvs, H a = some (.dK kvs) ∧ EdAll K H as kvs E
theorem StoAt.keep {as : List Addr} {S' : Sto} (h : StoAt K H as S') (k : Kp S H H') : StoAt K H' as S' := ⟨h.len, fun i E th a h1 h2 => by
  obtain ⟨kvs, e1, e2⟩ := h.at_ i E th a h1 h2
  have := e2.keepT (Tk.of k) []
  rw [List.append_nil] at this
  exact ⟨kvs, k _ _ e1 (fun _ _ e => nomatch e), this⟩⟩
theorem StoAt.add {as : List Addr} {S' : Sto} {D : Addr} {kvs : List (Key × V)} {E : Env} {th : List (Str × P)} (h : StoAt K H as S') (hD : H D = some (.dK kvs)) (he : EdAll K H (as ++ [D]) kvs E) : StoAt K H (as ++ [D]) (S' ++ [(E, th)]) := ⟨by rw [List.length_append, List.length_append, h.len]; rfl, fun i E' th' a h1 h2 => by
  by_cases hi : i < S'.length
  · rw [List.getElem?_append_left hi] at h1
    rw [List.getElem?_append_left (by rw [h.len]; exact hi)] at h2
    obtain ⟨kvs', e1, e2⟩ := h.at_ i E' th' a h1 h2
    exact ⟨kvs', e1, e2.keepT (fun _ _ q => q) [D]⟩
  · have hi2 : i = S'.length := by
      have := (List.getElem?_eq_some_iff.mp h1).1
      rw [List.length_append, List.length_singleton] at this
      omega
    subst hi2
    rw [List.getElem?_concat_length] at h1
    rw [← h.len, List.getElem?_concat_length] at h2
    cases h1
    cases h2
    exact ⟨kvs, hD, he⟩⟩
theorem StoAt.get {as : List Addr} {S' : Sto} (h : StoAt K H as S') {e : Nat} {a : Addr} (ha : as[e]? = some a) : ∃ kvs, H a = some (.dK kvs) ∧ EdAll K H as kvs (envS S' e) := by
  have hl : e < S'.length := by rw [← h.len]; exact (List.getElem?_eq_some_iff.mp ha).1
  exact h.at_ e _ _ a (S_get hl) ha
/-- a worth; the list of what a function is given is none of Av -/
def WtV (K : PySem.W.Frag) (H : Hp) (as Av : List Addr) (v : V) : Wt → Prop
  | .num i => ∃ T, v = .ref T ∧ SqT K H T [.str "number", .int i]
  | .pair a b => ∃ T va vb, v = .ref T ∧ SqT K H T [.str "pair", va, vb] ∧ CloV K H as va a ∧ CloV K H as vb b
  | .fn f l => ∃ T pl vs, v = .ref T ∧ SqT K H T [.str "function", .str f, .ref pl] ∧ H pl = some (.lst vs) ∧ All2 (CloV K H as) vs l ∧ pl ∉ Av
theorem WtV.keep {as Av : List Addr} {v : V} {w : Wt} (h : WtV K H as Av v w) (k : Kp S H H') (hS : ∀ x, x ∈ S → x ∈ Av) (xs : List Addr) : WtV K H' (as ++ xs) Av v w := by
  cases w with
  | num i =>
    obtain ⟨T, e, h1⟩ := h
    exact ⟨T, e, k.sqT h1⟩
  | pair a b =>
    obtain ⟨T, va, vb, e, h1, h2, h3⟩ := h
    exact ⟨T, va, vb, e, k.sqT h1, h2.keep k xs, h3.keep k xs⟩
  | fn f l =>
    obtain ⟨T, pl, vs, e, h1, h2, h3, h4⟩ := h
    exact ⟨T, pl, vs, e, k.sqT h1, k.lst h2 (fun m => h4 (hS _ m)), h3.mono fun v c q => q.keep k xs, h4⟩
theorem WtV.keep0 {as Av : List Addr} {v : V} {w : Wt} (h : WtV K H as Av v w) (k : Kp S H H') (hS : ∀ x, x ∈ S → x ∈ Av) : WtV K H' as Av v w := by
  have := h.keep k hS []
  rwa [List.append_nil] at this
theorem WtV.ref {as Av : List Addr} {v : V} {w : Wt} (h : WtV K H as Av v w) : ∃ T, v = .ref T := by
  cases w with
  | num i => obtain ⟨T, e, _⟩ := h; exact ⟨T, e⟩
  | pair a b => obtain ⟨T, _, _, e, _⟩ := h; exact ⟨T, e⟩
  | fn f l => obtain ⟨T, _, _, e, _⟩ := h; exact ⟨T, e⟩
def wtHd : Wt → Str
  | .num _ => "number"
  | .pair _ _ => "pair"
  | .fn _ _ => "function"
theorem WtV.hd {as Av : List Addr} {v : V} {w : Wt} (h : WtV K H as Av v w) : ∃ T r, v = .ref T ∧ SqT K H T (.str (wtHd w) :: r) := by
  cases w with
  | num i => obtain ⟨T, e, h1⟩ := h; exact ⟨T, _, e, h1⟩
  | pair a b => obtain ⟨T, _, _, e, h1, _⟩ := h; exact ⟨T, _, e, h1⟩
  | fn f l => obtain ⟨T, _, _, e, h1, _⟩ := h; exact ⟨T, _, e, h1⟩
theorem hd_num {w : Wt} (h : isNum w = false) : wtHd w ≠ "number" := by
  cases w with
  | num i => cases h
  | pair a b => exact (show ("pair" : Str) ≠ "number" by decide +kernel)
  | fn f l => exact (show ("function" : Str) ≠ "number" by decide +kernel)
theorem hd_pr {w : Wt} (h : isPr w = false) : wtHd w ≠ "pair" := by
  cases w with
  | num i => exact (show ("number" : Str) ≠ "pair" by decide +kernel)
  | pair a b => cases h
  | fn f l => exact (show ("function" : Str) ≠ "pair" by decide +kernel)
theorem hd_fn {w : Wt} (h : isFn w = false) : wtHd w ≠ "function" := by
  cases w with
  | num i => exact (show ("number" : Str) ≠ "function" by decide +kernel)
  | pair a b => exact (show ("pair" : Str) ≠ "function" by decide +kernel)
  | fn f l => cases h
/-- a frame -/
def FrV (K : PySem.W.Frag) (H : Hp) (as : List Addr) (v : V) : Fr → Prop
  | .op k ps e => CloV K H as v (.op k ps, e)
  | .sec k i => ∃ T p a, v = .ref T ∧ SqT K H T [.ref p, .ref a] ∧ SqT K H p [.str "second", .str k, .int i]
theorem FrV.keep {as : List Addr} {v : V} {f : Fr} (h : FrV K H as v f) (k : Kp S H H') (xs : List Addr) : FrV K H' (as ++ xs) v f := by
  cases f with
  | op k' ps e => exact CloV.keep h k xs
  | sec k' i =>
    obtain ⟨T, p, a, e, h1, h2⟩ := h
    exact ⟨T, p, a, e, k.sqT h1, k.sqT h2⟩
abbrev FrsV (K : PySem.W.Frag) (H : Hp) (as : List Addr) (vs : List V) (fr : List Fr) : Prop := All2 (FrV K H as) vs fr.reverse
theorem FrsV.keep {as : List Addr} {vs : List V} {fr : List Fr} (h : FrsV K H as vs fr) (k : Kp S H H') (xs : List Addr) : FrsV K H' (as ++ xs) vs fr := All2.mono (fun v f q => FrV.keep q k xs) h
theorem FrsV.keep0 {as : List Addr} {vs : List V} {fr : List Fr} (h : FrsV K H as vs fr) (k : Kp S H H') : FrsV K H' as vs fr := by
  have := FrsV.keep h k []
  rwa [List.append_nil] at this
theorem FrsV.snoc {as : List Addr} {vs : List V} {fr : List Fr} {v : V} {f : Fr} (h : FrsV K H as vs fr) (k : FrV K H as v f) : FrsV K H as (vs ++ [v]) (f :: fr) := by
  show All2 _ _ (f :: fr).reverse
  rw [List.reverse_cons]
  exact All2.snoc h k
theorem FrsV.unsnoc {as : List Addr} {vs : List V} {fr : List Fr} {f : Fr} (h : FrsV K H as vs (f :: fr)) : ∃ vi v, vs = vi ++ [v] ∧ FrsV K H as vi fr ∧ FrV K H as v f := by
  have h' : All2 (FrV K H as) vs (f :: fr).reverse := h
  rw [List.reverse_cons] at h'
  exact All2.unsnoc h'
end
end Lz

set_option Elab.async false
set_option linter.all false
set_option maxRecDepth 100000
set_option maxHeartbeats 8000000
namespace Lz
open PySem PySem.Spec PyProof.Rows L2
def enC (c : Clo) : Ent := (c.1, c.2, false)
def spLCalled (K : PySem.W.Frag) : Sp := fun vs H Q _ => ∃ (vp : V) (fs : List Fn) (d : Lz.P) (i : Nat) (g : Fn) (pl : Addr) (gs : List V) (cs : List Clo) (as : List Addr), vs = [vp, .str g.1, .ref pl] ∧ Dp K H vp (progD fs d) ∧ PrS fs d ∧ fs[i]? = some g ∧ H pl = some (.lst gs) ∧ All2 (CloV K H as) gs cs ∧ cs.length = g.2.1.length ∧ cs.length ≤ 4 ∧
  ∀ (T : Addr) (vb : V) (D : Addr) (kvs : List (Key × V)) (H' : Hp), Kp [] H H' → H D = none → SqT K H' T [vb, .ref D] → Dp K H' vb g.2.2.data → H' D = some (.dK kvs) → EdAll K H' (as ++ [D]) kvs (callE g.2.1 cs) → Q (.ref T) H'
section
variable {P : Program} {w : World} {K : PySem.W.Frag} {mg : Str → Option Value} {base : Heap} {f : Addr} {fd : FuncData}
abbrev sLCalled : Stmt := topS 37
theorem scLCalled : FnScope ["_law_program", "_law_f", "_law_given", "_law_names", "_law_body", "_law_known", "_law_name", "_law_thing"] ["_law_program", "_law_f", "_law_given"] (defScope sLCalled) := ⟨rfl, rfl, rfl, by decide +kernel, rfl, by decide +kernel, by decide +kernel⟩
theorem ok_lcalled (F : Fun K "_law_called" "_law_called" sLCalled f fd) (mzip : mg "zip" = none) : FnOk P w K mg base CX0 1 f fd ["_law_program", "_law_f", "_law_given"] (spLCalled K) := by
  refine F.ok scLCalled (fun vs H Q E h => ?_) (fun cdv A outer s H vs Q E hr h => ?_)
  · obtain ⟨vp, fs, d, i, g, pl, gs, cs, as, rfl, _⟩ := h
    rfl
  have hu := units1 hr
  obtain ⟨vp, fs, d, i, g, pl, gs, cs, as, rfl, hp, hok, hi, hpl, hgs, hl, h4, q⟩ := h
  refine ⟨_, (pss_cons (ps_asg (pe_ix (ix_listK (K := K) rfl) (pe_lc (own := [("_law_name", 6), ("_law_names", 3), ("_law_body", 4)]) rfl scLCalled.nd (pi_tupK (K := K) rfl (pe_ix (ix_tupK (K := K) rfl) (pv 0) pe_int (fun _ _ => rfl))) (blkOk_by (N := ["_law_program", "_law_f", "_law_given", "_law_names", "_law_body", "_law_known", "_law_name", "_law_thing"]) (sc := defScope sLCalled) (by decide +kernel)) (fun _ _ _ _ _ => (pg_tupK (K := K) (n := 3) rfl rfl (pgs_cons (pg_name (i := 6) scLCalled.nd rfl (.inl rfl)) (pgs_cons (pg_name (i := 3) scLCalled.nd rfl (.inl rfl)) (pgs_cons (pg_name (i := 4) scLCalled.nd rfl (.inl rfl)) pgs_nil))))) (fun _ _ _ _ _ => (pts_one (pt_cmpR op_eq (pv 6) (pv 1) (nomark _)))) (fun _ _ _ _ _ => (pe_tup (pa_cons (pv 3) (pa_cons (pv 4) pa_nil))))) pe_int (fun _ _ => rfl)) (pg_tupK (K := K) (n := 2) rfl rfl (pgs_cons (pg_name (i := 3) scLCalled.nd rfl (.inl rfl)) (pgs_cons (pg_name (i := 4) scLCalled.nd rfl (.inl rfl)) pgs_nil))))
    (pss_cons (ps_set (i := 5) scLCalled.nd rfl (.inl rfl) pe_dnewK)
    (pss_cons (ps_for PassesOwn.never rfl (pi_mixK (K := K) rfl (by rfl) mzip (pa_cons (pv 3) (pa_cons (pv 2) pa_nil))) (pg_tupK (K := K) (n := 2) rfl rfl (pgs_cons (pg_name (i := 6) scLCalled.nd rfl (.inl rfl)) (pgs_cons (pg_name (i := 7) scLCalled.nd rfl (.inl rfl)) pgs_nil))) (pss_one (ps_dput hu (pv 5) (pv 6) (pe_op (op_catAK (K := K) rfl) (pv 7) (pe_tup (pa_cons pe_bl pa_nil))) rfl)))
    (pss_one (ps_ret (pe_tup (pa_cons (pv 4) (pa_cons (pv 5) pa_nil)))))))), ?_⟩
  obtain ⟨pr, ft, rs, vd, rfl, hpr, hft, hrs, hvd⟩ := prog_at hp
  have h8 := hok.ok.len
  refine ⟨_, rfl, pr, _, _, _, rfl, rfl, hpr, at_of (j := 0) rfl rfl, ft, rfl, ⟨_, hft⟩, fun D hD => ?_⟩
  refine lc_tup (K := K) (a := ft) (xs := rs) (fun j H' => Kp [] H H' ∧ ∃ ws : List V, H' D = some (.lst ws) ∧ ws.length ≤ j ∧ (i < j → ws ≠ []) ∧ ∀ x, x ∈ ws → ∃ T r u, x = .ref T ∧ SqT K H' T [.ref r, u] ∧ SqT K H' r (g.2.1.map V.str) ∧ Dp K H' u g.2.2.data)
    ⟨Kp.new hD, [], upd_same, Nat.le_refl _, (fun h => absurd h (Nat.not_lt_zero _)), (fun _ m => nomatch m)⟩ (fun j H' _ ⟨k, _⟩ => k.sqT hft) ?_ ?_
  · rintro j x H2 hj ⟨k2, ws, hws, hwl, hwn, hwx⟩
    obtain ⟨g', t2, r, u, hg', rfl, ht, hrr, hu2⟩ := fn_atU (Dp.keepAll k2 _ _ (fdU_fz _) hrs) hj
    have hjl := (List.getElem?_eq_some_iff.mp hg').1
    refine ⟨t2, _, rfl, ht, rfl, _, _, rfl, _, _, rfl, _, _, rfl, rfl, ?_⟩
    refine ⟨rfl, ?_⟩
    refine ⟨_, rfl, _, rfl, rfl, _, rfl, ?_⟩
    by_cases e : g'.1 = g.1
    · obtain rfl := fn_one hok.ok hi hg' e
      refine ite2 (fun _ => ?_) (fun c => absurd (decide_eq_true rfl) c)
      refine ⟨_, rfl, _, rfl, (by show 2 ≤ sizeLine; decide), fun T hT => ?_⟩
      have kT : Kp [] H2 (upd H2 T (.tup [.ref r, u])) := Kp.new hT
      have hT3 : (upd H2 T (.tup [.ref r, u])) T = some (.tup [.ref r, u]) := upd_same
      have hws3 := kT.lst hws (fun m => nomatch m)
      generalize upd H2 T (.tup [.ref r, u]) = H3 at kT hT3 hws3 ⊢
      have kp : Kp [D] H3 (upd H3 D (.lst (ws ++ [.ref T]))) := Kp.put hws3 List.mem_cons_self
      have kk : Kp [D] H2 (upd H3 D (.lst (ws ++ [.ref T]))) := (kT.mono (fun _ m => nomatch m)).trans kp
      refine ⟨ws, hws3, small60000 (by omega), (k2.trans kT).mut hD, _, upd_same, by rw [List.length_append, List.length_singleton]; omega, (fun _ => by simp), fun x m => ?_⟩
      rcases List.mem_append.mp m with m | m
      · obtain ⟨T', r', u', e1, a1, a2, a3⟩ := hwx x m
        exact ⟨T', r', u', e1, kk.sqT a1, kk.sqT a2, Dp.keep kk _ _ (data_fz _) a3⟩
      · rw [List.mem_singleton.mp m]
        exact ⟨T, r, u, rfl, kp.sqT (SqT.of hT3), kk.sqT hrr, Dp.keep kk _ _ (data_fz _) hu2⟩
    · refine ite2 (fun c => absurd (V.str.inj (of_decide_eq_true c)) e) (fun _ => ?_)
      refine ⟨k2, ws, hws, by omega, fun h => ?_, hwx⟩
      by_cases c : i < j
      · exact hwn c
      · have e2 : i = j := by omega
        subst e2
        rw [hi] at hg'
        exact absurd (congrArg (·.1) (Option.some.inj hg')).symm e
  rintro H2 ⟨k2, ws, hws, hwl, hwn, hwx⟩
  have hrl : rs.length = fs.length := by rw [hrs.length, List.length_map]
  have hil := (List.getElem?_eq_some_iff.mp hi).1
  cases ws with
  | nil => exact absurd rfl (hwn (by rw [hrl]; exact hil))
  | cons w0 r0 =>
    obtain ⟨T, r, u, rfl, hT, hr0, hu0⟩ := hwx w0 List.mem_cons_self
    refine ⟨D, _, _, _, rfl, rfl, SqL.of hws, at_of (j := 0) rfl rfl, T, _, rfl, hT, rfl, _, _, rfl, _, _, rfl, rfl, ?_⟩
    intro pd hpd
    have kx : Kp [] H2 (upd H2 pd (.dK [])) := Kp.new hpd
    have hd3 : (upd H2 pd (.dK [])) pd = some (.dK []) := upd_same
    have hpl2 := k2.lst hpl (fun m => nomatch m)
    have hgs2 : All2 (CloV K H2 as) gs cs := hgs.mono fun v c q => q.keep0 k2
    have hgl := hgs.length
    have hpdH : H pd = none := by
      cases e : H pd with
      | none => rfl
      | some o => rw [k2 _ _ e (fun m => nomatch m)] at hpd; cases hpd
    refine ⟨_, rfl, _, rfl, r, pl, _, _, rfl, kx.sqT hr0, SqL.of (kx.lst hpl2 (fun m => nomatch m)), for_it (StZ.walk_mix (K := K) (a := r) (b := pl) (xs := g.2.1.map V.str) (ys := gs) (n := cs.length) (by rw [List.length_map, hgl, hl, Nat.min_self])) (fun j σ H' => ∃ (v6 v7 : Option V) (kvs : List (Key × V)), σ = [some (.ref pr), some (.str g.1), some (.ref pl), some (.ref r), some u, some (.ref pd), v6, v7] ∧ Kp [] H2 H' ∧ H' pd = some (.dK kvs) ∧ EdAll K H' (as ++ [pd]) kvs (mergeE [] ((g.2.1.zip (cs.map enC)).take j)) ∧ kvs.length ≤ j)
      ⟨_, _, [], rfl, kx, hd3, .nil, Nat.le_refl _⟩ (fun j σ H' _ ⟨_, _, _, _, k, _⟩ => ⟨k.sqT hr0, SqL.of (k.lst hpl2 (fun m => nomatch m))⟩) ?_ ?_⟩
    · rintro j x σ H4 H5 hj ⟨v6, v7, kvs, rfl, k4, hd4, he4, hkl⟩ ⟨T2, rv, ov, rfl, hT0, rfl, e3, e4⟩
      have e3 : (g.2.1.map V.str)[j]? = some rv := e3
      have e4 : gs[j]? = some ov := e4
      rw [List.getElem?_map] at e3
      obtain ⟨nx, hnx, rfl⟩ : ∃ nx, g.2.1[j]? = some nx ∧ V.str nx = rv := by
        cases e : g.2.1[j]? with
        | none => rw [e] at e3; cases e3
        | some y => rw [e] at e3; exact ⟨y, rfl, Option.some.inj e3⟩
      obtain ⟨cc, hcc, hcv⟩ := (hgs2.mono fun v c q => q.keep0 k4).get e4
      have ky : Kp [] H4 (upd H4 T2 (.tup [.str nx, ov])) := Kp.new hT0
      have k5 := k4.trans ky
      have hT25 : (upd H4 T2 (.tup [.str nx, ov])) T2 = some (.tup [.str nx, ov]) := upd_same
      have hd5 := ky _ _ hd4 (fun m => nomatch m)
      have he5 := he4.keepT (Tk.of ky) []
      rw [List.append_nil] at he5
      have hcv5 := hcv.keep0 ky
      generalize upd H4 T2 (.tup [.str nx, ov]) = H5 at k5 hT25 hd5 he5 hcv5 ⊢
      obtain ⟨Tc, vp, ac, rfl, hTc, hvp, hac⟩ := hcv5
      refine ⟨T2, _, rfl, SqT.of hT25, rfl, _, _, rfl, _, _, rfl, rfl, ?_⟩
      refine ⟨_, rfl, (by show 1 ≤ sizeLine; decide), fun Tb hTb => ?_⟩
      have kb : Kp [] H5 (upd H5 Tb (.tup [.bl false])) := Kp.new hTb
      have hb6 : (upd H5 Tb (.tup [.bl false])) Tb = some (.tup [.bl false]) := upd_same
      have hTc6 := kb.sqT hTc
      have hvp6 := Dp.keep kb _ _ (data_fz _) hvp
      have hd6 := kb _ _ hd5 (fun m => nomatch m)
      have he6 := he5.keepT (Tk.of kb) []
      rw [List.append_nil] at he6
      have k6 := k5.trans kb
      generalize upd H5 Tb (.tup [.bl false]) = H6 at kb hb6 hTc6 hvp6 hd6 he6 k6 ⊢
      refine ⟨Tc, Tb, _, _, rfl, rfl, hTc6, SqT.of hb6, (by show 3 ≤ sizeLine; decide), (fun e => nomatch e), (fun _ e => nomatch e), fun _ _ T3 hT3 => ?_⟩
      have kc : Kp [] H6 (upd H6 T3 (.tup ([vp, .ref ac] ++ [.bl false]))) := Kp.new hT3
      have hT37 : (upd H6 T3 (.tup ([vp, .ref ac] ++ [.bl false]))) T3 = some (.tup [vp, .ref ac, .bl false]) := upd_same
      have hvp7 := Dp.keep kc _ _ (data_fz _) hvp6
      have hd7 := kc _ _ hd6 (fun m => nomatch m)
      have he7 := he6.keepT (Tk.of kc) []
      rw [List.append_nil] at he7
      have k7 := k6.trans kc
      generalize upd H6 T3 (.tup ([vp, .ref ac] ++ [.bl false])) = H7 at hT37 hvp7 hd7 he7 k7 ⊢
      refine ⟨_, rfl, _, rfl, pd, _, rfl, DPut.k (k := .inr nx) hd7 (small60000 (by omega)), ?_⟩
      have kt : Tk K H7 (upd H7 pd (.dK (putK kvs (.inr nx) (.ref T3)))) := Tk.put hd7
      have hl' := length_putK kvs (Sum.inr nx : Key) (.ref T3)
      refine ⟨_, _, _, rfl, k7.mut hpd, upd_same, ?_, by omega⟩
      have ez : (g.2.1.zip (cs.map enC))[j]? = some (nx, enC cc) := by
        rw [List.getElem?_zip_eq_some]
        exact ⟨hnx, by rw [List.getElem?_map, hcc]; rfl⟩
      rw [List.take_add_one, ez]
      show EdAll K _ _ _ (mergeE [] (_ ++ [(nx, enC cc)]))
      rw [mergeE_snoc]
      have he8 := he7.keepT kt []
      rw [List.append_nil] at he8
      exact he8.putF ⟨T3, vp, ac, rfl, kt _ _ (SqT.of hT37), Dp.keepT kt _ _ (data_fz _) hvp7, get_app hac _⟩
    · rintro σ H4 ⟨v6, v7, kvs, rfl, k4, hd4, he4, hkl⟩
      rw [List.take_of_length_le (by rw [List.length_zip, List.length_map]; omega)] at he4
      refine ⟨_, rfl, _, rfl, (by show 2 ≤ sizeLine; decide), fun T' hT' => ?_⟩
      have kf : Kp [] H4 (upd H4 T' (.tup [u, .ref pd])) := Kp.new hT'
      have he5 := he4.keepT (Tk.of kf) []
      rw [List.append_nil] at he5
      exact q T' u pd kvs _ ((k2.trans k4).trans kf) hpdH (SqT.of upd_same) (Dp.keep (k4.trans kf) _ _ (data_fz _) hu0) (kf _ _ hd4 (fun m => nomatch m)) he5
end
end Lz

set_option Elab.async false
set_option linter.all false
set_option maxRecDepth 100000
set_option maxHeartbeats 8000000
namespace Lz
open PySem PySem.Spec PyProof.Rows L2
/-- the law's loop, as the heap has it -/
structure Lst (K : PySem.W.Frag) (H : Hp) (as : List Addr) (lf lw : Addr) (S : Sto) (fr : List Fr) (ws : List Str) (fvs : List V) : Prop where
  sto : StoAt K H as S
  lf : H lf = some (.lst fvs)
  frs : FrsV K H as fvs fr
  lw : H lw = some (.lst (ws.map V.str))
section
variable {K : PySem.W.Frag} {H H' : Hp} {as : List Addr} {lf lw : Addr} {S : Sto} {fr : List Fr} {ws : List Str} {fvs : List V}
theorem Lst.keep (h : Lst K H as lf lw S fr ws fvs) (k : Kp [] H H') : Lst K H' as lf lw S fr ws fvs :=
  ⟨h.sto.keep k, k.lst h.lf (fun m => nomatch m), FrsV.keep0 h.frs k, k.lst h.lw (fun m => nomatch m)⟩
theorem Lst.word (h : Lst K H as lf lw S fr ws fvs) (n : lf ≠ lw) (wx : List Str) : Lst K (upd H lw (.lst (ws.map V.str ++ wx.map V.str))) as lf lw S fr (ws ++ wx) fvs ∧ Kp [lw] H (upd H lw (.lst (ws.map V.str ++ wx.map V.str))) := by
  have kp : Kp [lw] H (upd H lw (.lst (ws.map V.str ++ wx.map V.str))) := Kp.put h.lw List.mem_cons_self
  exact ⟨⟨h.sto.keep kp, by rw [upd_ne n]; exact h.lf, FrsV.keep0 h.frs kp, by rw [List.map_append]; exact upd_same⟩, kp⟩
theorem Lst.frame (h : Lst K H as lf lw S fr ws fvs) (n : lf ≠ lw) {v : V} {f : Fr} (hv : FrV K H as v f) : Lst K (upd H lf (.lst (fvs ++ [v]))) as lf lw S (f :: fr) ws (fvs ++ [v]) ∧ Kp [lf] H (upd H lf (.lst (fvs ++ [v]))) := by
  have kp : Kp [lf] H (upd H lf (.lst (fvs ++ [v]))) := Kp.put h.lf List.mem_cons_self
  refine ⟨⟨h.sto.keep kp, upd_same, ?_, by rw [upd_ne n.symm]; exact h.lw⟩, kp⟩
  have h1 := FrsV.keep0 h.frs kp
  have h2 := FrV.keep hv kp []
  rw [List.append_nil] at h2
  exact h1.snoc h2
theorem Lst.env (h : Lst K H as lf lw S fr ws fvs) {D : Addr} {kvs : List (Key × V)} {E : Env} {th : List (Str × Lz.P)} (hD : H D = some (.dK kvs)) (he : EdAll K H (as ++ [D]) kvs E) : Lst K H (as ++ [D]) lf lw (S ++ [(E, th)]) fr ws fvs :=
  ⟨h.sto.add hD he, h.lf, FrsV.keep h.frs (Kp.refl [] H) [D], h.lw⟩
end
/-- what a turn into a part tells -/
def resI (K : PySem.W.Frag) (H : Hp) (as : List Addr) (lf lw : Addr) (S : Sto) (fr : List Fr) (ws : List Str) (v : V) : TR → Prop
  | .go c fr' ws' es => ∃ (as' : List Addr) (vh : V) (T : Addr) (fvs : List V), v = .ref T ∧ SqT K H T [vh, .non] ∧ CloV K H (as ++ as') vh c ∧ Lst K H (as ++ as') lf lw (S ++ es) (fr' ++ fr) (ws ++ ws') fvs
  | .w w ws' => ∃ (vw : V) (T : Addr) (fvs : List V), v = .ref T ∧ SqT K H T [.non, vw] ∧ WtV K H as [lf, lw] vw w ∧ Lst K H as lf lw S fr (ws ++ ws') fvs
  | .f _ => False
def spLInto (K : PySem.W.Frag) : Sp := fun vs H Q _ => ∃ (vp vh : V) (lf lw : Addr) (fs : List Fn) (d p : Lz.P) (e : Nat) (as : List Addr) (S : Sto) (fr : List Fr) (ws : List Str) (fvs : List V) (R : TR), vs = [vp, vh, .ref lf, .ref lw] ∧ Dp K H vp (progD fs d) ∧ PrS fs d ∧ CloV K H as vh (p, e) ∧ Lst K H as lf lw S fr ws fvs ∧ lf ≠ lw ∧ Into fs S e p R ∧ p.okS (fs.map (·.1)) ∧ p.hd ≠ "shut" ∧ fr.length ≤ 30000 ∧ ws.length ≤ 500 ∧ (envS S e).length ≤ 5000000 ∧ (∀ nm bs b, p = .lt nm bs b → nm.length ≤ 60) ∧
  ∀ (v' : V) (H' : Hp), Kp [lf, lw] H H' → resI K H' as lf lw S fr ws v' R → Q v' H'
theorem small5 {n : Nat} (h : n ≤ 6000000) : n < 2 ^ 24 := by
  have : (2 : Nat) ^ 24 = 16777216 := by decide
  omega
theorem op_hd {k : Str} (h : k ∈ opk) : k ≠ "shut" ∧ k ≠ "number" ∧ k ≠ "pair" ∧ k ≠ "name" ∧ k ≠ "let" ∧ k ≠ "fun" := by
  have h0 : opk.all (fun k => decide (k ≠ "shut") && decide (k ≠ "number") && decide (k ≠ "pair") && decide (k ≠ "name") && decide (k ≠ "let") && decide (k ≠ "fun")) = true := by decide +kernel
  have q := List.all_eq_true.mp h0 _ h
  simp only [Bool.and_eq_true, decide_eq_true_eq] at q
  exact ⟨q.1.1.1.1.1, q.1.1.1.1.2, q.1.1.1.2, q.1.1.2, q.1.2, q.2⟩
section
variable {P : Program} {w : World} {K : PySem.W.Frag} {mg : Str → Option Value} {base : Heap} {f : Addr} {fd : FuncData}
abbrev sLInto : Stmt := topS 39
theorem scLInto : FnScope ["_law_program", "_law_here", "_law_frames", "_law_words", "_law_part", "_law_known", "_law_inner", "_law_name", "_law_one"] ["_law_program", "_law_here", "_law_frames", "_law_words"] (defScope sLInto) := ⟨rfl, rfl, rfl, by decide +kernel, rfl, by decide +kernel, by decide +kernel⟩
theorem ok_linto (F : Fun K "_law_into" "_law_into" sLInto f fd) (B : Bt mg) (mdict : mg "dict" = none) (CLWants : C8.Cal P w K mg base 1 "_law_wants" (spLWants K) []) (CLCalled : C8.Cal P w K mg base 1 "_law_called" (spLCalled K) []) : FnOk P w K mg base CX0 2 f fd ["_law_program", "_law_here", "_law_frames", "_law_words"] (spLInto K) := by
  have mint := B.int
  refine F.ok scLInto (fun vs H Q E h => ?_) (fun cdv A outer s H vs Q E hr h => ?_)
  · obtain ⟨vp, vh, lf, lw, fs, d, p, e, as, S, fr, ws, fvs, R, rfl, _⟩ := h
    rfl
  have hu := units1 hr
  obtain ⟨vp, vh, lf, lw, fs, d, p, e, as, S, fr, ws, fvs, R, rfl, hp, hok, hcl, hL, hn, hI, hto, hns, hfr, hwl, hel, hnm, q⟩ := h
  refine ⟨_, (pss_cons (ps_asg (pv 1) (pg_tupK (K := K) (n := 2) rfl rfl (pgs_cons (pg_name (i := 4) scLInto.nd rfl (.inl rfl)) (pgs_cons (pg_name (i := 5) scLInto.nd rfl (.inl rfl)) pgs_nil))))
    (pss_cons (ps_if (pt_cmpR op_eq (pe_ix (ix_tupK (K := K) rfl) (pv 4) pe_int (fun _ _ => rfl)) pe_str (nomark _)) (pss_one (ps_ret (pe_tup (pa_cons pe_non (pa_cons (pe_tup (pa_cons pe_str (pa_cons (pe_ix (ix_tupK (K := K) rfl) (pv 4) pe_int (fun _ _ => rfl)) pa_nil))) pa_nil))))) pss_nil)
    (pss_cons (ps_if (pt_cmpR op_eq (pe_ix (ix_tupK (K := K) rfl) (pv 4) pe_int (fun _ _ => rfl)) pe_str (nomark _)) (pss_one (ps_ret (pe_tup (pa_cons pe_non (pa_cons (pe_tup (pa_cons pe_str (pa_cons (pe_tup (pa_cons (pe_ix (ix_tupK (K := K) rfl) (pv 4) pe_int (fun _ _ => rfl)) (pa_cons (pv 5) pa_nil))) (pa_cons (pe_tup (pa_cons (pe_ix (ix_tupK (K := K) rfl) (pv 4) pe_int (fun _ _ => rfl)) (pa_cons (pv 5) pa_nil))) pa_nil)))) pa_nil))))) pss_nil)
    (pss_cons (ps_if (pt_cmpR op_eq (pe_ix (ix_tupK (K := K) rfl) (pv 4) pe_int (fun _ _ => rfl)) pe_str (nomark _)) (pss_cons (ps_expr (pe_bmK (K := K) rfl PySem.F.plainAttrs_list PySem.F.slot_list_extend PySem.F.type_list_extend mt_extend (pv 3) (pa_cons (pe_slice (sl_listK (K := K) rfl) (pe_lst (pa_cons pe_str (pa_cons pe_str pa_nil))) po_none (po_some (pe_op op_add pe_int (pe_callTy call_int1 (by rfl) mint (by decide +kernel) (pa_cons (pe_ix (ix_tupK (K := K) rfl) (pe_dget hu (pv 5) (pe_ix (ix_tupK (K := K) rfl) (pv 4) pe_int (fun _ _ => rfl)) (fun _ _ => rfl)) pe_int (fun _ _ => rfl)) pa_nil))))) pa_nil)))
    (pss_one (ps_ret (pe_tup (pa_cons (pe_slice (sl_tupAK (K := K) rfl) (pe_dget hu (pv 5) (pe_ix (ix_tupK (K := K) rfl) (pv 4) pe_int (fun _ _ => rfl)) (fun _ _ => rfl)) po_none (po_some pe_int)) (pa_cons pe_non pa_nil)))))) pss_nil)
    (pss_cons (ps_if (pt_cmpR op_eq (pe_ix (ix_tupK (K := K) rfl) (pv 4) pe_int (fun _ _ => rfl)) pe_str (nomark _)) (pss_cons (ps_expr (pe_bmK (K := K) rfl PySem.F.plainAttrs_list PySem.F.slot_list_append PySem.F.type_list_append mt_append (pv 3) (pa_cons pe_str pa_nil)))
    (pss_cons (ps_set (i := 6) scLInto.nd rfl (.inl rfl) (pe_callTy call_copy (by rfl) mdict (by decide +kernel) (pa_cons (pv 5) pa_nil)))
    (pss_cons (ps_for PassesOwn.never rfl (pi_tupK (K := K) rfl (pe_ix (ix_tupK (K := K) rfl) (pv 4) pe_int (fun _ _ => rfl))) (pg_tupK (K := K) (n := 2) rfl rfl (pgs_cons (pg_name (i := 7) scLInto.nd rfl (.inl rfl)) (pgs_cons (pg_name (i := 8) scLInto.nd rfl (.inl rfl)) pgs_nil))) (pss_one (ps_dput hu (pv 6) (pv 7) (pe_tup (pa_cons (pv 8) (pa_cons (pv 6) (pa_cons pe_bl pa_nil)))) rfl)))
    (pss_one (ps_ret (pe_tup (pa_cons (pe_tup (pa_cons (pe_ix (ix_tupK (K := K) rfl) (pv 4) pe_int (fun _ _ => rfl)) (pa_cons (pv 6) pa_nil))) (pa_cons pe_non pa_nil)))))))) pss_nil)
    (pss_cons (ps_if (PW.pt (pw_and (pt_cmpR op_eq (pe_ix (ix_tupK (K := K) rfl) (pv 4) pe_int (fun _ _ => rfl)) pe_str (nomark _)) (pw_and1 (pt_cmpR op_eq (C8.pe_c CLWants hr (by first | decide | omega) (by rfl) (pa_cons (pv 0) (pa_cons (pe_ix (ix_tupK (K := K) rfl) (pv 4) pe_int (fun _ _ => rfl)) pa_nil))) pe_int (nomark _))))) (pss_cons (ps_expr (pe_bmK (K := K) rfl PySem.F.plainAttrs_list PySem.F.slot_list_append PySem.F.type_list_append mt_append (pv 3) (pa_cons pe_str pa_nil)))
    (pss_one (ps_ret (pe_tup (pa_cons (C8.pe_c CLCalled hr (by first | decide | omega) (by rfl) (pa_cons (pv 0) (pa_cons (pe_ix (ix_tupK (K := K) rfl) (pv 4) pe_int (fun _ _ => rfl)) (pa_cons (pe_lst pa_nil) pa_nil)))) (pa_cons pe_non pa_nil)))))) pss_nil)
    (pss_cons (ps_if (pt_cmpR op_eq (pe_ix (ix_tupK (K := K) rfl) (pv 4) pe_int (fun _ _ => rfl)) pe_str (nomark _)) (pss_one (ps_ret (pe_tup (pa_cons pe_non (pa_cons (pe_tup (pa_cons pe_str (pa_cons (pe_ix (ix_tupK (K := K) rfl) (pv 4) pe_int (fun _ _ => rfl)) (pa_cons (pe_lst pa_nil) pa_nil)))) pa_nil))))) pss_nil)
    (pss_cons (ps_expr (pe_bmK (K := K) rfl PySem.F.plainAttrs_list PySem.F.slot_list_append PySem.F.type_list_append mt_append (pv 2) (pa_cons (pe_tup (pa_cons (pv 4) (pa_cons (pv 5) pa_nil))) pa_nil)))
    (pss_one (ps_ret (pe_tup (pa_cons (pe_tup (pa_cons (pe_ix (ix_tupK (K := K) rfl) (pv 4) pe_int (fun _ _ => rfl)) (pa_cons (pv 5) pa_nil))) (pa_cons pe_non pa_nil))))))))))))), ?_⟩
  obtain ⟨Tc, vq, ae, rfl, hTc, hvq, hae⟩ := hcl
  refine ⟨_, rfl, Tc, _, rfl, hTc, rfl, _, _, rfl, _, _, rfl, rfl, ?_⟩
  obtain ⟨a, xs, rfl, ht, hxs⟩ := hd_at hvq
  have hwl' : (ws.map V.str).length = ws.length := List.length_map ..
  have hfl : fvs.length = fr.length := by rw [All2.length hL.frs, List.length_reverse]
  have step : ∀ (x : Str) (l : List Str), (ws.map V.str ++ [V.str x]) = ws.map V.str ++ [x].map V.str := fun _ _ => rfl
  -- a new dict, a part that goes with it
  have fin : ∀ (E : Env) (th : List (Str × Lz.P)) (b : Lz.P) (ws' : List Str) (H1 : Hp) (D : Addr) (kvs : List (Key × V)) (vb : V) (T1 T2 : Addr), Kp [lf, lw] H H1 → Lst K H1 as lf lw S fr (ws ++ ws') fvs → H1 D = some (.dK kvs) → EdAll K H1 (as ++ [D]) kvs E → Dp K H1 vb b.data → SqT K H1 T1 [vb, .ref D] → H1 T2 = none → R = .go (b, S.length) [] ws' [(E, th)] → Q (.ref T2) (upd H1 T2 (.tup [.ref T1, .non])) := fun E th b ws' H1 D kvs vb T1 T2 k1 hL1 hD he hb h1 hT2 eR => by
    have kx : Kp [] H1 (upd H1 T2 (.tup [.ref T1, .non])) := Kp.new hT2
    refine q _ _ (k1.trans (kx.mono fun _ m => nomatch m)) ?_
    rw [eR]
    refine ⟨[D], .ref T1, T2, fvs, rfl, SqT.of upd_same, ⟨T1, vb, D, rfl, kx.sqT h1, Dp.keep kx _ _ (data_fz _) hb, ?_⟩, ?_⟩
    · show (as ++ [D])[S.length]? = some D
      rw [← hL.sto.len, List.getElem?_concat_length]
    · have he2 := he.keepT (Tk.of kx) []
      rw [List.append_nil] at he2
      exact (hL1.keep kx).env (kx _ _ hD (fun m => nomatch m)) he2
  cases hI with
  | shut => exact absurd rfl hns
  | @num i =>
    refine ⟨_, rfl, a, _, _, _, rfl, rfl, ht, at_of (j := 0) rfl rfl, rfl, _, rfl, ?_⟩
    refine ite2 (fun _ => ?_) (fun c => absurd (decide_eq_true rfl) c)
    obtain ⟨vi, y2, rfl, hvi, hy2⟩ := DpAll.unconsE (show DpAll K H xs [.int i] from hxs)
    cases hvi
    cases hy2
    refine ⟨_, rfl, a, _, _, _, rfl, rfl, ht, at_of (j := 1) rfl rfl, (by show 2 ≤ sizeLine; decide), fun T1 hT1 => ⟨(by show 2 ≤ sizeLine; decide), fun T2 hT2 => ?_⟩⟩
    have kx : Kp [] H (upd H T1 (.tup [.str "number", .int i])) := Kp.new hT1
    have ky : Kp [] (upd H T1 (.tup [.str "number", .int i])) (upd (upd H T1 (.tup [.str "number", .int i])) T2 (.tup [.non, .ref T1])) := Kp.new hT2
    refine q _ _ ((kx.trans ky).mono fun _ m => nomatch m) ⟨.ref T1, T2, fvs, rfl, SqT.of upd_same, ⟨T1, rfl, ky.sqT (SqT.of upd_same)⟩, ?_⟩
    rw [List.append_nil]
    exact hL.keep (kx.trans ky)
  | @pair b c =>
    obtain ⟨vb, r1, rfl, hb, hr1⟩ := DpAll.uncons (show DpAll K H xs (Lz.P.datas [b, c]) from hxs)
    obtain ⟨vc, r2, rfl, hc, hr2⟩ := DpAll.uncons hr1
    cases hr2
    refine ⟨_, rfl, a, _, _, _, rfl, rfl, ht, at_of (j := 0) rfl rfl, rfl, _, rfl, ?_⟩
    refine ite2 (fun c => absurd (V.str.inj (of_decide_eq_true c)) (by show ¬ ("pair" : Str) = "number"; decide +kernel)) (fun _ => ?_)
    refine ⟨_, rfl, a, _, _, _, rfl, rfl, ht, at_of (j := 0) rfl rfl, rfl, _, rfl, ?_⟩
    refine ite2 (fun _ => ?_) (fun c => absurd (decide_eq_true rfl) c)
    refine ⟨_, rfl, a, _, _, _, rfl, rfl, ht, at_of (j := 1) rfl rfl, _, rfl, (by show 2 ≤ sizeLine; decide), fun T1 hT1 => ?_⟩
    have kx : Kp [] H (upd H T1 (.tup [vb, .ref ae])) := Kp.new hT1
    have h1 : SqT K (upd H T1 (.tup [vb, .ref ae])) T1 [vb, .ref ae] := SqT.of upd_same
    have ht1 := kx.sqT ht
    generalize upd H T1 (.tup [vb, .ref ae]) = H1 at kx h1 ht1 ⊢
    refine ⟨_, rfl, a, _, _, _, rfl, rfl, ht1, at_of (j := 2) rfl rfl, _, rfl, (by show 2 ≤ sizeLine; decide), fun T2 hT2 => ?_⟩
    have ky : Kp [] H1 (upd H1 T2 (.tup [vc, .ref ae])) := Kp.new hT2
    have h2 : SqT K (upd H1 T2 (.tup [vc, .ref ae])) T2 [vc, .ref ae] := SqT.of upd_same
    have h1 := ky.sqT h1
    have kxy := kx.trans ky
    generalize upd H1 T2 (.tup [vc, .ref ae]) = H2 at h1 h2 kxy ⊢
    refine ⟨(by show 3 ≤ sizeLine; decide), fun T3 hT3 => ⟨(by show 2 ≤ sizeLine; decide), fun T4 hT4 => ?_⟩⟩
    have kz : Kp [] H2 (upd H2 T3 (.tup [.str "pair", .ref T1, .ref T2])) := Kp.new hT3
    have ku : Kp [] (upd H2 T3 (.tup [.str "pair", .ref T1, .ref T2])) (upd (upd H2 T3 (.tup [.str "pair", .ref T1, .ref T2])) T4 (.tup [.non, .ref T3])) := Kp.new hT4
    have kk := kxy.trans (kz.trans ku)
    refine q _ _ (kk.mono fun _ m => nomatch m) ⟨.ref T3, T4, fvs, rfl, SqT.of upd_same, ⟨T3, .ref T1, .ref T2, rfl, ku.sqT (SqT.of upd_same), ⟨T1, vb, ae, rfl, (kz.trans ku).sqT h1, Dp.keep kk _ _ (data_fz _) hb, hae⟩, ⟨T2, vc, ae, rfl, (kz.trans ku).sqT h2, Dp.keep kk _ _ (data_fz _) hc, hae⟩⟩, ?_⟩
    rw [List.append_nil]
    exact hL.keep kk
  | @nam x p2 j fl hlk =>
    obtain ⟨vx, y2, rfl, hvx, hy2⟩ := DpAll.unconsE (show DpAll K H xs [.str x] from hxs)
    cases hvx
    cases hy2
    refine ⟨_, rfl, a, _, _, _, rfl, rfl, ht, at_of (j := 0) rfl rfl, rfl, _, rfl, ?_⟩
    refine ite2 (fun c => absurd (V.str.inj (of_decide_eq_true c)) (by show ¬ ("name" : Str) = "number"; decide +kernel)) (fun _ => ?_)
    refine ⟨_, rfl, a, _, _, _, rfl, rfl, ht, at_of (j := 0) rfl rfl, rfl, _, rfl, ?_⟩
    refine ite2 (fun c => absurd (V.str.inj (of_decide_eq_true c)) (by show ¬ ("name" : Str) = "pair"; decide +kernel)) (fun _ => ?_)
    refine ⟨_, rfl, a, _, _, _, rfl, rfl, ht, at_of (j := 0) rfl rfl, rfl, _, rfl, ?_⟩
    refine ite2 (fun _ => ?_) (fun c => absurd (decide_eq_true rfl) c)
    obtain ⟨kvs, hke, hed⟩ := hL.sto.get hae
    obtain ⟨v, hv, Tv, vp2, a2, rfl, hTv, hvp2, ha2⟩ := hed.get hlk
    have dget : ∀ {H'}, H' ae = some (.dK kvs) → DGet H' ae (.str x) (some (.ref Tv)) := fun h => by
      have := DGet.k (k := Sum.inr x) h
      rw [hv] at this
      exact this
    refine ⟨_, rfl, .inl ⟨rfl, _, SqL.of hL.lw⟩, (by show 2 ≤ sizeLine; decide), fun l1 hl1 => ?_⟩
    have k1 : Kp [] H (upd H l1 (.lst [.str "open", .str "let"])) := Kp.new hl1
    have h1 : (upd H l1 (.lst [.str "open", .str "let"])) l1 = some (.lst [.str "open", .str "let"]) := upd_same
    have ht1 := k1.sqT ht
    have hk1 := k1 _ _ hke (fun m => nomatch m)
    have hTv1 := k1.sqT hTv
    have hL1 := hL.keep k1
    have hvp21 := Dp.keep k1 _ _ (data_fz _) hvp2
    generalize upd H l1 (.lst [.str "open", .str "let"]) = H1 at k1 h1 ht1 hk1 hTv1 hL1 hvp21 ⊢
    refine ⟨_, rfl, _, rfl, a, _, _, _, rfl, rfl, ht1, at_of (j := 1) rfl rfl, ae, _, rfl, dget hk1, Tv, _, _, _, rfl, rfl, hTv1, at_of (j := 2) rfl rfl, .inr ⟨fl, rfl, ?_⟩⟩
    refine ⟨_, _, rfl, rfl, _, rfl, l1, _, rfl, SqL.of h1, fun l2 hl2 => ?_⟩
    have ecut : cutV [V.str "open", V.str "let"] none (some (1 + if fl = true then 1 else 0)) = (if fl then [("open" : Str), "let"] else ["open"]).map V.str := by cases fl <;> rfl
    rw [ecut]
    have k2 : Kp [] H1 (upd H1 l2 (.lst ((if fl then [("open" : Str), "let"] else ["open"]).map V.str))) := Kp.new hl2
    have h2 : (upd H1 l2 (.lst ((if fl then [("open" : Str), "let"] else ["open"]).map V.str))) l2 = some (.lst ((if fl then [("open" : Str), "let"] else ["open"]).map V.str)) := upd_same
    have ht2 := k2.sqT ht1
    have hk2 := k2 _ _ hk1 (fun m => nomatch m)
    have hTv2 := k2.sqT hTv1
    have hL2 := hL1.keep k2
    have hvp22 := Dp.keep k2 _ _ (data_fz _) hvp21
    have k2 := k1.trans k2
    have hwx : (if fl then [("open" : Str), "let"] else ["open"]).length ≤ 2 := by cases fl <;> decide
    generalize upd H1 l2 (.lst ((if fl then [("open" : Str), "let"] else ["open"]).map V.str)) = H2 at k2 h2 ht2 hk2 hTv2 hL2 hvp22 ⊢
    refine ⟨lw, l2, _, _, rfl, rfl, hL2.lw, h2, by rw [List.length_map, List.length_map]; exact Nat.le_of_lt (small60000 (by omega)), ?_⟩
    obtain ⟨hL3, k3⟩ := hL2.word hn (if fl then [("open" : Str), "let"] else ["open"])
    have ht3 := k3.sqT ht2
    have hk3 := k3 _ _ hk2 (fun _ _ e => nomatch e)
    have hTv3 := k3.sqT hTv2
    have hvp23 := Dp.keep k3 _ _ (data_fz _) hvp22
    have k3 := (k2.mono (T := [lw]) fun _ m => nomatch m).trans k3
    generalize upd H2 lw (.lst (ws.map V.str ++ (if fl then [("open" : Str), "let"] else ["open"]).map V.str)) = H3 at k3 ht3 hk3 hTv3 hL3 hvp23 ⊢
    refine ⟨_, rfl, _, rfl, a, _, _, _, rfl, rfl, ht3, at_of (j := 1) rfl rfl, ae, _, rfl, dget hk3, _, rfl, ?_⟩
    refine ⟨Tv, _, rfl, hTv3, fun h => absurd h.2 (by show ¬ (2 : Nat) = 3; decide), fun _ T1 hT1 => ?_⟩
    have kx : Kp [] H3 (upd H3 T1 (.tup [vp2, .ref a2])) := Kp.new hT1
    refine ⟨(by show 2 ≤ sizeLine; decide), fun T2 hT2 => ?_⟩
    have ky : Kp [] (upd H3 T1 (.tup [vp2, .ref a2])) (upd (upd H3 T1 (.tup [vp2, .ref a2])) T2 (.tup [.ref T1, .non])) := Kp.new hT2
    refine q _ _ ((k3.mono fun y m => List.mem_cons_of_mem _ m).trans ((kx.trans ky).mono fun _ m => nomatch m)) ⟨[], .ref T1, T2, fvs, rfl, SqT.of upd_same, ⟨T1, vp2, a2, rfl, ky.sqT (SqT.of upd_same), Dp.keep (kx.trans ky) _ _ (data_fz _) hvp23, by rw [List.append_nil]; exact ha2⟩, ?_⟩
    rw [List.append_nil, List.append_nil]
    exact hL3.keep (kx.trans ky)
  | @lett nm bs b =>
    obtain ⟨a', r, rs, vb, e1, ht2, hrt, hrs, hvb⟩ := let_atU hvq
    obtain rfl := V.ref.inj e1
    refine ⟨_, rfl, a, _, _, _, rfl, rfl, ht2, at_of (j := 0) rfl rfl, rfl, _, rfl, ?_⟩
    refine ite2 (fun c => absurd (V.str.inj (of_decide_eq_true c)) (by show ¬ ("let" : Str) = "number"; decide +kernel)) (fun _ => ?_)
    refine ⟨_, rfl, a, _, _, _, rfl, rfl, ht2, at_of (j := 0) rfl rfl, rfl, _, rfl, ?_⟩
    refine ite2 (fun c => absurd (V.str.inj (of_decide_eq_true c)) (by show ¬ ("let" : Str) = "pair"; decide +kernel)) (fun _ => ?_)
    refine ⟨_, rfl, a, _, _, _, rfl, rfl, ht2, at_of (j := 0) rfl rfl, rfl, _, rfl, ?_⟩
    refine ite2 (fun c => absurd (V.str.inj (of_decide_eq_true c)) (by show ¬ ("let" : Str) = "name"; decide +kernel)) (fun _ => ?_)
    refine ⟨_, rfl, a, _, _, _, rfl, rfl, ht2, at_of (j := 0) rfl rfl, rfl, _, rfl, ?_⟩
    refine ite2 (fun _ => ?_) (fun c => absurd (decide_eq_true rfl) c)
    refine ⟨_, rfl, .inl ⟨rfl, _, SqL.of hL.lw⟩, lw, _, _, rfl, rfl, hL.lw, small60000 (by omega), ?_⟩
    obtain ⟨hL1, k1⟩ := hL.word hn [("let" : Str)]
    show tSeq _ _ _ _ (upd H lw (.lst (ws.map V.str ++ [("let" : Str)].map V.str)))
    generalize upd H lw (.lst (ws.map V.str ++ [("let" : Str)].map V.str)) = H1 at hL1 k1 ⊢
    obtain ⟨kvs, hke, hed⟩ := hL1.sto.get hae
    refine ⟨_, rfl, ae, kvs, rfl, .inl hke, fun D hD => ?_⟩
    have kd : Kp [] H1 (upd H1 D (.dK kvs)) := Kp.new hD
    have hD2 : (upd H1 D (.dK kvs)) D = some (.dK kvs) := upd_same
    have hed2 := hed.keepT (Tk.of kd) [D]
    have k12 := k1.trans (kd.mono (T := [lw]) fun _ m => nomatch m)
    have hnl : nm.length = bs.length := (show nm.length = bs.length ∧ _ from hto).1
    have hn60 := hnm nm bs b rfl
    have hrl : rs.length = nm.length := by
      rw [hrs.length, List.length_zipWith, datas_len]
      omega
    have hkl0 : kvs.length = (envS S e).length := hed.length
    refine ⟨_, rfl, a, _, _, _, rfl, rfl, k12.sqT ht2, at_of (j := 1) rfl rfl, r, rfl, ⟨_, k12.sqT hrt⟩, for_tup (K := K) (a := r) (xs := rs) (fun i σ H' => ∃ (v7 v8 : Option V) (kv : List (Key × V)), σ = [some vp, some (.ref Tc), some (.ref lf), some (.ref lw), some (.ref a), some (.ref ae), some (.ref D), v7, v8] ∧ Kp [] H1 H' ∧ H' D = some (.dK kv) ∧ EdAll K H' (as ++ [D]) kv (mergeE (envS S e) ((nm.zip (bs.map fun x => ((x, S.length, true) : Ent))).take i)) ∧ kv.length ≤ kvs.length + i)
      ⟨_, _, kvs, rfl, kd, hD2, hed2, by omega⟩ (fun i σ H' _ ⟨_, _, _, _, k, _⟩ => (k1.trans (k.mono (T := [lw]) fun _ m => nomatch m)).sqT hrt) ?_ ?_⟩
    · rintro i x σ H2 hi ⟨v7, v8, kv, rfl, k2, hDk, hek, hkl⟩
      have hil := (List.getElem?_eq_some_iff.mp hi).1
      have kk2 := k1.trans (k2.mono (T := [lw]) fun _ m => nomatch m)
      obtain ⟨tr, nx, u, y, rfl, htr, hnx, hye, huy⟩ := row_atU (Dp.keepAll kk2 _ _ rows_fz hrs) hi
      refine ⟨tr, _, rfl, htr, rfl, _, _, rfl, _, _, rfl, rfl, ?_⟩
      refine ⟨_, rfl, _, rfl, (by show 3 ≤ sizeLine; decide), fun T1 hT1 => ?_⟩
      have kx : Kp [] H2 (upd H2 T1 (.tup [u, .ref D, .bl true])) := Kp.new hT1
      have h1 : SqT K (upd H2 T1 (.tup [u, .ref D, .bl true])) T1 [u, .ref D, .bl true] := SqT.of upd_same
      have hDk3 := kx _ _ hDk (fun m => nomatch m)
      have hek3 := hek.keepT (Tk.of kx) []
      rw [List.append_nil] at hek3
      have huy3 := Dp.keep kx _ _ (data_fz _) huy
      have k3 := k2.trans kx
      generalize upd H2 T1 (.tup [u, .ref D, .bl true]) = H3 at h1 hDk3 hek3 huy3 k3 ⊢
      refine ⟨_, rfl, _, rfl, D, _, rfl, DPut.k (k := .inr nx) hDk3 (small5 (by omega)), ?_⟩
      have kt : Tk K H3 (upd H3 D (.dK (putK kv (.inr nx) (.ref T1)))) := Tk.put hDk3
      have hl' := length_putK kv (Sum.inr nx : Key) (.ref T1)
      refine ⟨_, _, _, rfl, k3.mut hD, upd_same, ?_, by omega⟩
      have ez : (nm.zip (bs.map fun x => ((x, S.length, true) : Ent)))[i]? = some (nx, (y, S.length, true)) := by
        rw [List.getElem?_zip_eq_some]
        exact ⟨hnx, by rw [List.getElem?_map, hye]; rfl⟩
      rw [List.take_add_one, ez]
      show EdAll K _ _ _ (mergeE (envS S e) (_ ++ [(nx, ((y, S.length, true) : Ent))]))
      rw [mergeE_snoc]
      have hek4 := hek3.keepT kt []
      rw [List.append_nil] at hek4
      refine hek4.putF ⟨T1, u, D, rfl, kt _ _ h1, Dp.keepT kt _ _ (data_fz _) huy3, ?_⟩
      show (as ++ [D])[S.length]? = some D
      rw [← hL.sto.len, List.getElem?_concat_length]
    · rintro σ H2 ⟨v7, v8, kv, rfl, k2, hDk, hek, hkl⟩
      rw [List.take_of_length_le (by rw [List.length_zip, List.length_map]; omega)] at hek
      have kk2 := k1.trans (k2.mono (T := [lw]) fun _ m => nomatch m)
      refine ⟨_, rfl, a, _, _, _, rfl, rfl, kk2.sqT ht2, at_of (j := 2) rfl rfl, _, rfl, (by show 2 ≤ sizeLine; decide), fun T1 hT1 => ⟨(by show 2 ≤ sizeLine; decide), fun T2 hT2 => ?_⟩⟩
      have kx : Kp [] H2 (upd H2 T1 (.tup [vb, .ref D])) := Kp.new hT1
      have hek2 := hek.keepT (Tk.of kx) []
      rw [List.append_nil] at hek2
      have k3 := k2.trans kx
      exact fin (letE (envS S e) nm bs S.length) (letT (thS S e) nm bs) b ["let"] _ D kv vb T1 T2 ((k1.trans (k3.mono fun _ m => nomatch m)).mono fun y m => List.mem_cons_of_mem _ m) (hL1.keep k3) (kx _ _ hDk (fun m => nomatch m)) hek2 (Dp.keep (k1.trans (k3.mono fun _ m => nomatch m)) _ _ (data_fz _) hvb) (SqT.of upd_same) hT2 rfl
  | @call i g hi h0 =>
    obtain ⟨vx, y2, rfl, hvx, hy2⟩ := DpAll.unconsE (show DpAll K H xs [.str g.1] from hxs)
    cases hvx
    cases hy2
    refine ⟨_, rfl, a, _, _, _, rfl, rfl, ht, at_of (j := 0) rfl rfl, rfl, _, rfl, ?_⟩
    refine ite2 (fun c => absurd (V.str.inj (of_decide_eq_true c)) (by show ¬ ("fun" : Str) = "number"; decide +kernel)) (fun _ => ?_)
    refine ⟨_, rfl, a, _, _, _, rfl, rfl, ht, at_of (j := 0) rfl rfl, rfl, _, rfl, ?_⟩
    refine ite2 (fun c => absurd (V.str.inj (of_decide_eq_true c)) (by show ¬ ("fun" : Str) = "pair"; decide +kernel)) (fun _ => ?_)
    refine ⟨_, rfl, a, _, _, _, rfl, rfl, ht, at_of (j := 0) rfl rfl, rfl, _, rfl, ?_⟩
    refine ite2 (fun c => absurd (V.str.inj (of_decide_eq_true c)) (by show ¬ ("fun" : Str) = "name"; decide +kernel)) (fun _ => ?_)
    refine ⟨_, rfl, a, _, _, _, rfl, rfl, ht, at_of (j := 0) rfl rfl, rfl, _, rfl, ?_⟩
    refine ite2 (fun c => absurd (V.str.inj (of_decide_eq_true c)) (by show ¬ ("fun" : Str) = "let"; decide +kernel)) (fun _ => ?_)
    refine ⟨_, rfl, a, _, _, _, rfl, rfl, ht, at_of (j := 0) rfl rfl, rfl, _, rfl, ?_⟩
    refine ite2 (fun _ => ?_) (fun c => absurd (decide_eq_true rfl) c)
    refine ⟨_, rfl, _, rfl, a, _, _, _, rfl, rfl, ht, at_of (j := 1) rfl rfl, vp, fs, d, i, g, rfl, hp, hok.ok, hi, fun H1 k1 => ?_⟩
    refine ⟨rfl, _, rfl, ?_⟩
    refine ite2 (fun _ => ?_) (fun c => absurd (by rw [h0]; decide) c)
    have hL1 := hL.keep k1
    have ht1 := k1.sqT ht
    have hp1 := Dp.keep k1 _ _ (progU_fz _ _) hp
    refine ⟨_, rfl, .inl ⟨rfl, _, SqL.of hL1.lw⟩, lw, _, _, rfl, rfl, hL1.lw, small60000 (by omega), ?_⟩
    obtain ⟨hL2, k2⟩ := hL1.word hn [("call" : Str)]
    show tSeq _ _ _ _ (upd H1 lw (.lst (ws.map V.str ++ [("call" : Str)].map V.str)))
    have ht2 := k2.sqT ht1
    have hp2 := Dp.keep k2 _ _ (progU_fz _ _) hp1
    have k2 := (k1.mono (T := [lw]) fun _ m => nomatch m).trans k2
    generalize upd H1 lw (.lst (ws.map V.str ++ [("call" : Str)].map V.str)) = H2 at hL2 k2 ht2 hp2 ⊢
    refine ⟨_, rfl, _, rfl, a, _, _, _, rfl, rfl, ht2, at_of (j := 1) rfl rfl, Nat.zero_le _, fun pl hpl => ?_⟩
    have kl : Kp [] H2 (upd H2 pl (.lst [])) := Kp.new hpl
    refine ⟨vp, fs, d, i, g, pl, [], [], as, rfl, Dp.keep kl _ _ (progU_fz _ _) hp2, hok, hi, upd_same, .nil, by rw [h0]; rfl, Nat.zero_le _, fun T1 vb D kvs H3 k3 hD h1 hvb hDk hek => ?_⟩
    refine ⟨(by show 2 ≤ sizeLine; decide), fun T2 hT2 => ?_⟩
    have e0 : callE g.2.1 [] = [] := by rw [h0]; rfl
    rw [e0] at hek
    exact fin [] [] g.2.2 ["call"] H3 D kvs vb T1 T2 ((k2.trans ((kl.trans k3).mono fun _ m => nomatch m)).mono fun y m => List.mem_cons_of_mem _ m) (hL2.keep (kl.trans k3)) hDk hek hvb h1 hT2 rfl
  | @fn i g hi h0 =>
    obtain ⟨vx, y2, rfl, hvx, hy2⟩ := DpAll.unconsE (show DpAll K H xs [.str g.1] from hxs)
    cases hvx
    cases hy2
    refine ⟨_, rfl, a, _, _, _, rfl, rfl, ht, at_of (j := 0) rfl rfl, rfl, _, rfl, ?_⟩
    refine ite2 (fun c => absurd (V.str.inj (of_decide_eq_true c)) (by show ¬ ("fun" : Str) = "number"; decide +kernel)) (fun _ => ?_)
    refine ⟨_, rfl, a, _, _, _, rfl, rfl, ht, at_of (j := 0) rfl rfl, rfl, _, rfl, ?_⟩
    refine ite2 (fun c => absurd (V.str.inj (of_decide_eq_true c)) (by show ¬ ("fun" : Str) = "pair"; decide +kernel)) (fun _ => ?_)
    refine ⟨_, rfl, a, _, _, _, rfl, rfl, ht, at_of (j := 0) rfl rfl, rfl, _, rfl, ?_⟩
    refine ite2 (fun c => absurd (V.str.inj (of_decide_eq_true c)) (by show ¬ ("fun" : Str) = "name"; decide +kernel)) (fun _ => ?_)
    refine ⟨_, rfl, a, _, _, _, rfl, rfl, ht, at_of (j := 0) rfl rfl, rfl, _, rfl, ?_⟩
    refine ite2 (fun c => absurd (V.str.inj (of_decide_eq_true c)) (by show ¬ ("fun" : Str) = "let"; decide +kernel)) (fun _ => ?_)
    refine ⟨_, rfl, a, _, _, _, rfl, rfl, ht, at_of (j := 0) rfl rfl, rfl, _, rfl, ?_⟩
    refine ite2 (fun _ => ?_) (fun c => absurd (decide_eq_true rfl) c)
    refine ⟨_, rfl, _, rfl, a, _, _, _, rfl, rfl, ht, at_of (j := 1) rfl rfl, vp, fs, d, i, g, rfl, hp, hok.ok, hi, fun H1 k1 => ?_⟩
    refine ⟨rfl, _, rfl, ?_⟩
    refine ite2 (fun c => absurd (V.int.inj (of_decide_eq_true c)) (fun z => h0 (List.eq_nil_of_length_eq_zero (by omega)))) (fun _ => ?_)
    have ht1 := k1.sqT ht
    refine ⟨_, rfl, a, _, _, _, rfl, rfl, ht1, at_of (j := 0) rfl rfl, rfl, _, rfl, ?_⟩
    refine ite2 (fun _ => ?_) (fun c => absurd (decide_eq_true rfl) c)
    refine ⟨_, rfl, a, _, _, _, rfl, rfl, ht1, at_of (j := 1) rfl rfl, Nat.zero_le _, fun pl hpl => ?_⟩
    have kl : Kp [] H1 (upd H1 pl (.lst [])) := Kp.new hpl
    have hpl2 : (upd H1 pl (.lst [])) pl = some (.lst []) := upd_same
    have hL2 := (hL.keep k1).keep kl
    have npl : pl ∉ [lf, lw] := fun m => by
      have h1 := (hL.keep k1).lf
      have h2 := (hL.keep k1).lw
      rcases List.mem_cons.mp m with e | m
      · rw [← e, hpl] at h1; cases h1
      · rw [← List.mem_singleton.mp m, hpl] at h2; cases h2
    have k2 := k1.trans kl
    generalize upd H1 pl (.lst []) = H2 at hpl2 hL2 k2 ⊢
    refine ⟨(by show 3 ≤ sizeLine; decide), fun T1 hT1 => ⟨(by show 2 ≤ sizeLine; decide), fun T2 hT2 => ?_⟩⟩
    have kx : Kp [] H2 (upd H2 T1 (.tup [.str "function", .str g.1, .ref pl])) := Kp.new hT1
    have ky : Kp [] (upd H2 T1 (.tup [.str "function", .str g.1, .ref pl])) (upd (upd H2 T1 (.tup [.str "function", .str g.1, .ref pl])) T2 (.tup [.non, .ref T1])) := Kp.new hT2
    refine q _ _ ((k2.trans (kx.trans ky)).mono fun _ m => nomatch m) ⟨.ref T1, T2, fvs, rfl, SqT.of upd_same, ⟨T1, pl, [], rfl, ky.sqT (SqT.of upd_same), (kx.trans ky).lst hpl2 (fun m => nomatch m), .nil, npl⟩, ?_⟩
    rw [List.append_nil]
    exact hL2.keep (kx.trans ky)
  | @op k b bs hk =>
    obtain ⟨vb, r1, rfl, hb, hr1⟩ := DpAll.uncons (show DpAll K H xs (Lz.P.datas (b :: bs)) from hxs)
    obtain ⟨n1, n2, n3, n4, n5, n6⟩ := op_hd hk
    refine ⟨_, rfl, a, _, _, _, rfl, rfl, ht, at_of (j := 0) rfl rfl, rfl, _, rfl, ?_⟩
    refine ite2 (fun c => absurd (V.str.inj (of_decide_eq_true c)) n2) (fun _ => ?_)
    refine ⟨_, rfl, a, _, _, _, rfl, rfl, ht, at_of (j := 0) rfl rfl, rfl, _, rfl, ?_⟩
    refine ite2 (fun c => absurd (V.str.inj (of_decide_eq_true c)) n3) (fun _ => ?_)
    refine ⟨_, rfl, a, _, _, _, rfl, rfl, ht, at_of (j := 0) rfl rfl, rfl, _, rfl, ?_⟩
    refine ite2 (fun c => absurd (V.str.inj (of_decide_eq_true c)) n4) (fun _ => ?_)
    refine ⟨_, rfl, a, _, _, _, rfl, rfl, ht, at_of (j := 0) rfl rfl, rfl, _, rfl, ?_⟩
    refine ite2 (fun c => absurd (V.str.inj (of_decide_eq_true c)) n5) (fun _ => ?_)
    refine ⟨_, rfl, a, _, _, _, rfl, rfl, ht, at_of (j := 0) rfl rfl, rfl, _, rfl, ?_⟩
    refine ite2 (fun c => absurd (V.str.inj (of_decide_eq_true c)) n6) (fun _ => ?_)
    refine ite2 (fun c => absurd c (by simp)) (fun _ => ?_)
    refine ⟨_, rfl, a, _, _, _, rfl, rfl, ht, at_of (j := 0) rfl rfl, rfl, _, rfl, ?_⟩
    refine ite2 (fun c => absurd (V.str.inj (of_decide_eq_true c)) n6) (fun _ => ?_)
    refine ⟨_, rfl, .inl ⟨rfl, _, SqL.of hL.lf⟩, _, rfl, _, rfl, (by show 2 ≤ sizeLine; decide), fun T1 hT1 => ?_⟩
    have kx : Kp [] H (upd H T1 (.tup [.ref a, .ref ae])) := Kp.new hT1
    have h1 : SqT K (upd H T1 (.tup [.ref a, .ref ae])) T1 [.ref a, .ref ae] := SqT.of upd_same
    have hL1 := hL.keep kx
    have hvq1 := Dp.keep kx _ _ (data_fz _) hvq
    have ht1 := kx.sqT ht
    have hb1 := Dp.keep kx _ _ (data_fz _) hb
    generalize upd H T1 (.tup [.ref a, .ref ae]) = H1 at kx h1 hL1 hvq1 ht1 hb1 ⊢
    refine ⟨lf, _, _, rfl, rfl, hL1.lf, small60000 (by omega), ?_⟩
    obtain ⟨hL2, k2⟩ := hL1.frame hn (f := .op k (b :: bs) e) (v := .ref T1) ⟨T1, .ref a, ae, rfl, h1, hvq1, hae⟩
    have ht2 := k2.sqT ht1
    have hb2 := Dp.keep k2 _ _ (data_fz _) hb1
    have k2 := (kx.mono (T := [lf]) fun _ m => nomatch m).trans k2
    generalize upd H1 lf (.lst (fvs ++ [.ref T1])) = H2 at hL2 k2 ht2 hb2 ⊢
    refine ⟨_, rfl, a, _, _, _, rfl, rfl, ht2, at_of (j := 1) rfl rfl, _, rfl, (by show 2 ≤ sizeLine; decide), fun T2 hT2 => ⟨(by show 2 ≤ sizeLine; decide), fun T3 hT3 => ?_⟩⟩
    have ky : Kp [] H2 (upd H2 T2 (.tup [vb, .ref ae])) := Kp.new hT2
    have kz : Kp [] (upd H2 T2 (.tup [vb, .ref ae])) (upd (upd H2 T2 (.tup [vb, .ref ae])) T3 (.tup [.ref T2, .non])) := Kp.new hT3
    refine q _ _ ((k2.trans ((ky.trans kz).mono fun _ m => nomatch m)).mono fun y m => by rw [List.mem_singleton.mp m]; exact List.mem_cons_self) ⟨[], .ref T2, T3, fvs ++ [.ref T1], rfl, SqT.of upd_same, ⟨T2, vb, ae, rfl, kz.sqT (SqT.of upd_same), Dp.keep (ky.trans kz) _ _ (data_fz _) hb2, by rw [List.append_nil]; exact hae⟩, ?_⟩
    rw [List.append_nil, List.append_nil, List.append_nil]
    exact hL2.keep (ky.trans kz)
end
end Lz

set_option Elab.async false
set_option linter.all false
set_option maxRecDepth 100000
set_option maxHeartbeats 8000000
namespace Lz
open PySem PySem.Spec PyProof.Rows L2
abbrev tkv4 (i j : Int) : List (Key × V) := mergeK [] [(Sum.inr "plus", .int (i + j)), (Sum.inr "less", .int (i - j)), (Sum.inr "times", .int (i * j)), (Sum.inr "below", .int (if decide (i < j) = true then 1 else 0))]
theorem two_val4 {k : Str} (i j : Int) (h : k ∈ fours) : valV (tkv4 i j) (Sum.inr k) = some (.int (comeOf k i j)) := by
  have h' : k = "plus" ∨ k = "less" ∨ k = "times" ∨ k = "below" := by
    unfold fours at h
    simpa using h
  have c4 : comeOf "below" i j = if decide (i < j) = true then 1 else 0 := by
    unfold comeOf
    rw [if_neg (by decide +kernel), if_neg (by decide +kernel), if_neg (by decide +kernel)]
    by_cases e : i < j
    · rw [if_pos e, if_pos (decide_eq_true e)]
    · rw [if_neg e, if_neg (fun z => e (of_decide_eq_true z))]
  rcases h' with rfl | rfl | rfl | rfl
  · rfl
  · rfl
  · rfl
  · rw [c4]; rfl
/-- what a turn out of a part tells -/
def resO (K : PySem.W.Frag) (H : Hp) (as : List Addr) (lf lw : Addr) (S : Sto) (fr : List Fr) (ws : List Str) (v : V) : TR → Prop
  | .go c fr' ws' es => ∃ (as' : List Addr) (vh : V) (T : Addr) (fvs : List V), v = .ref T ∧ SqT K H T [vh, .non, .str ""] ∧ CloV K H (as ++ as') vh c ∧ Lst K H (as ++ as') lf lw (S ++ es) (fr' ++ fr) (ws ++ ws') fvs
  | .w w ws' => ∃ (vw : V) (T : Addr) (fvs : List V), v = .ref T ∧ SqT K H T [.non, vw, .str ""] ∧ WtV K H as [lf, lw] vw w ∧ Lst K H as lf lw S fr (ws ++ ws') fvs
  | .f x => ∃ (T : Addr) (fvs : List V), v = .ref T ∧ SqT K H T [.non, .non, .str x] ∧ Lst K H as lf lw S fr ws fvs
/-- the numbers are small -/
def NumOk : Fr → Wt → Prop
  | .sec _ i, .num j => i.natAbs < 10 ^ 60 ∧ j.natAbs < 10 ^ 60
  | _, _ => True
def spLSecond (K : PySem.W.Frag) : Sp := fun vs H Q _ => ∃ (vw : V) (k : Str) (i : Int) (lf lw : Addr) (fs : List Fn) (as : List Addr) (S : Sto) (fr : List Fr) (ws : List Str) (fvs : List V) (w : Wt) (R : TR), vs = [.str k, .int i, vw, .ref lw] ∧ WtV K H as [lf, lw] vw w ∧ Lst K H as lf lw S fr ws fvs ∧ lf ≠ lw ∧ OutR fs S (.sec k i) w R ∧ NumOk (.sec k i) w ∧ ws.length ≤ 500 ∧
  ∀ (v' : V) (H' : Hp), Kp [lf, lw] H H' → resO K H' as lf lw S fr ws v' R → Q v' H'
section
variable {P : Program} {w : World} {K : PySem.W.Frag} {mg : Str → Option Value} {base : Heap} {f : Addr} {fd : FuncData}
abbrev sLSecond : Stmt := topS 40
theorem scLSecond : FnScope ["_law_kind", "_law_one", "_law_worth", "_law_words", "_law_other", "_law_number"] ["_law_kind", "_law_one", "_law_worth", "_law_words"] (defScope sLSecond) := ⟨rfl, rfl, rfl, by decide +kernel, rfl, by decide +kernel, by decide +kernel⟩
theorem ok_lsecond (F : Fun K "_law_second" "_law_second" sLSecond f fd) (B : Bt mg) : FnOk P w K mg base CX0 1 f fd ["_law_kind", "_law_one", "_law_worth", "_law_words"] (spLSecond K) := by
  have mint := B.int
  have mabs := B.abs
  refine F.ok scLSecond (fun vs H Q E h => ?_) (fun cdv A outer s H vs Q E hr h => ?_)
  · obtain ⟨vw, k, i, lf, lw, fs, as, S, fr, ws, fvs, wt, R, rfl, _⟩ := h
    rfl
  have hu := units1 hr
  obtain ⟨vw, k, i, lf, lw, fs, as, S, fr, ws, fvs, wt, R, rfl, hw, hL, hn, hO, hnum, hwl, q⟩ := h
  refine ⟨_, (pss_cons (ps_if (pt_cmpR op_ne (pe_ix (ix_tupK (K := K) rfl) (pv 2) pe_int (fun _ _ => rfl)) pe_str (nomark _)) (pss_one (ps_ret (pe_tup (pa_cons pe_non (pa_cons pe_non (pa_cons pe_str pa_nil)))))) pss_nil)
    (pss_cons (ps_set (i := 4) scLSecond.nd rfl (.inl rfl) (pe_ix (ix_tupK (K := K) rfl) (pv 2) pe_int (fun _ _ => rfl)))
    (pss_cons (ps_set (i := 5) scLSecond.nd rfl (.inl rfl) (pe_dget hu (pe_disp (pps_cons pe_str (pe_op op_add (pv 1) (pv 4)) (pps_cons pe_str (pe_op op_sub (pv 1) (pv 4)) (pps_cons pe_str (pe_op op_mulW (pv 1) (pv 4)) (pps_cons pe_str (pe_callTy call_int1 (by rfl) mint (by decide +kernel) (pa_cons (pe_cmpR op_lt (pv 1) (pv 4) (nomark _)) pa_nil)) pps_nil)))) rfl rfl (by intro q; cases q) (by decide)) (pv 0) (fun _ _ => rfl)))
    (pss_cons (ps_if (pt_cmpR op_ge (pe_callB call_abs (by rfl) mabs (by decide +kernel) (pa_cons (pv 5) pa_nil)) (pe_op op_pow pe_int pe_int) (nomark _)) (pss_one (ps_ret (pe_tup (pa_cons pe_non (pa_cons pe_non (pa_cons pe_str pa_nil)))))) pss_nil)
    (pss_cons (ps_expr (pe_bmK (K := K) rfl PySem.F.plainAttrs_list PySem.F.slot_list_append PySem.F.type_list_append mt_append (pv 3) (pa_cons pe_str pa_nil)))
    (pss_one (ps_ret (pe_tup (pa_cons pe_non (pa_cons (pe_tup (pa_cons pe_str (pa_cons (pv 5) pa_nil))) (pa_cons pe_str pa_nil))))))))))), ?_⟩
  have hwl' : (ws.map V.str).length = ws.length := List.length_map ..
  have fault : ∀ (x : Str) (H1 : Hp) (T : Addr), Kp [] H H1 → H1 T = none → R = .f x → Q (.ref T) (upd H1 T (.tup [.non, .non, .str x])) := fun x H1 T k1 hT e => by
    have kx := k1.trans (Kp.new (S := []) (o := .tup [.non, .non, .str x]) hT)
    refine q _ _ (kx.mono fun _ m => nomatch m) ?_
    rw [e]
    exact ⟨T, fvs, rfl, SqT.of upd_same, hL.keep kx⟩
  have hsp : (isNum wt = false ∧ R = .f "number") ∨ ∃ j, wt = .num j ∧ k ∈ fours ∧ (((comeOf k i j).natAbs < 10 ^ 60 ∧ R = .w (.num (comeOf k i j)) ["number"]) ∨ (¬ (comeOf k i j).natAbs < 10 ^ 60 ∧ R = .f "great")) := by
    cases hO with
    | numb hk h => exact .inr ⟨_, rfl, hk, .inl ⟨h, rfl⟩⟩
    | great hk h => exact .inr ⟨_, rfl, hk, .inr ⟨h, rfl⟩⟩
    | secF hk h => exact .inl ⟨h, rfl⟩
  rcases hsp with ⟨h, e⟩ | ⟨j, rfl, hk, hend⟩
  · obtain ⟨Tw, r, rfl, hTw⟩ := hw.hd
    refine ⟨_, rfl, Tw, _, _, _, rfl, rfl, hTw, at_of (j := 0) rfl rfl, rfl, _, rfl, ?_⟩
    refine ite2 (fun _ => ?_) (fun c => absurd (by simpa using hd_num h) c)
    exact ⟨(by show 3 ≤ sizeLine; decide), fun T hT => fault _ H T (Kp.refl _ _) hT e⟩
  · obtain ⟨Tw, rfl, hTw⟩ := hw
    obtain ⟨hi, hj⟩ : i.natAbs < 10 ^ 60 ∧ j.natAbs < 10 ^ 60 := hnum
    refine ⟨_, rfl, Tw, _, _, _, rfl, rfl, hTw, at_of (j := 0) rfl rfl, rfl, _, rfl, ?_⟩
    refine ite2 (fun c => absurd c (by simp)) (fun _ => ?_)
    refine ⟨_, rfl, Tw, _, _, _, rfl, rfl, hTw, at_of (j := 1) rfl rfl, ?_⟩
    refine fun dd hdd => ⟨_, rfl, _, rfl, _, _, rfl, rfl, _, rfl, _, rfl, _, _, rfl, rfl, _, rfl, _, rfl, _, _, rfl, rfl, log_mul hi hj, _, rfl, _, rfl, _, _, rfl, rfl, .inr ⟨_, rfl, ?_⟩⟩
    refine ⟨upd_same, [(Sum.inr _, .int _), (Sum.inr _, .int _), (Sum.inr _, .int _), (Sum.inr _, .int _)], rfl, (by show 4 ≤ 15; decide), ?_⟩
    have ew : upd (upd H dd (.dK [])) dd (.dK (tkv4 i j)) = upd H dd (.dK (tkv4 i j)) := by rw [upd_upd]
    have k1 : Kp [] H (upd (upd H dd (.dK [])) dd (.dK (tkv4 i j))) := by rw [ew]; exact Kp.new hdd
    have hd1 : (upd (upd H dd (.dK [])) dd (.dK (tkv4 i j))) dd = some (.dK (tkv4 i j)) := upd_same
    refine ⟨_, rfl, dd, _, rfl, (by have := DGet.k (k := Sum.inr k) hd1; rw [two_val4 i j hk] at this; exact this), ?_⟩
    have e60 : ((10 ^ 60 : Nat) : Int) = beyond := rfl
    have hL1 := hL.keep k1
    refine ⟨_, rfl, _, rfl, _, _, rfl, rfl, ⟨by decide, by decide, by decide⟩, _, _, rfl, rfl, _, rfl, ?_⟩
    refine ite2 (fun c => ?_) (fun c => ?_)
    · have hno : ¬ (comeOf k i j).natAbs < 10 ^ 60 := fun z => by
        have h1 := (beyond_iff _).mpr z
        have h2 : beyond ≤ (if comeOf k i j < 0 then -comeOf k i j else comeOf k i j) := of_decide_eq_true c
        omega
      rcases hend with ⟨h, _⟩ | ⟨_, e⟩
      · exact absurd h hno
      exact ⟨(by show 3 ≤ sizeLine; decide), fun T hT => fault _ _ T k1 hT e⟩
    · have hyes : (comeOf k i j).natAbs < 10 ^ 60 := (beyond_iff _).mp (by
        have h2 : ¬ beyond ≤ (if comeOf k i j < 0 then -comeOf k i j else comeOf k i j) := fun z => c (decide_eq_true z)
        omega)
      obtain e : R = .w (.num (comeOf k i j)) ["number"] := by
        rcases hend with ⟨_, e⟩ | ⟨h, _⟩
        · exact e
        · exact absurd hyes h
      refine ⟨_, rfl, .inl ⟨rfl, _, SqL.of hL1.lw⟩, lw, _, _, rfl, rfl, hL1.lw, small60000 (by omega), ?_⟩
      obtain ⟨hL2, k2⟩ := hL1.word hn [("number" : Str)]
      show tSeq _ _ _ _ (upd _ lw (.lst (ws.map V.str ++ [("number" : Str)].map V.str)))
      have k2 := (k1.mono (T := [lw]) fun _ m => nomatch m).trans k2
      generalize upd _ lw (.lst (ws.map V.str ++ [("number" : Str)].map V.str)) = H2 at hL2 k2 ⊢
      refine ⟨_, rfl, (by show 2 ≤ sizeLine; decide), fun T1 hT1 => ⟨(by show 3 ≤ sizeLine; decide), fun T2 hT2 => ?_⟩⟩
      have kx : Kp [] H2 (upd H2 T1 (.tup [.str "number", .int (comeOf k i j)])) := Kp.new hT1
      have ky : Kp [] (upd H2 T1 (.tup [.str "number", .int (comeOf k i j)])) (upd (upd H2 T1 (.tup [.str "number", .int (comeOf k i j)])) T2 (.tup [.non, .ref T1, .str ""])) := Kp.new hT2
      refine q _ _ ((k2.trans ((kx.trans ky).mono fun _ m => nomatch m)).mono fun y m => List.mem_cons_of_mem _ m) ?_
      rw [e]
      exact ⟨.ref T1, T2, fvs, rfl, SqT.of upd_same, ⟨T1, rfl, ky.sqT (SqT.of upd_same)⟩, hL2.keep (kx.trans ky)⟩
end
end Lz

set_option Elab.async false
set_option linter.all false
set_option maxRecDepth 100000
set_option maxHeartbeats 8000000
namespace Lz
open PySem PySem.Spec PyProof.Rows L2
theorem in3U (a b c k : Str) : inV (.str k) [.str a, .str b, .str c] = decide (k ∈ [a, b, c]) := inU k [a, b, c]
theorem side_hd {k : Str} (h : k = "left" ∨ k = "right") : k ≠ "second" ∧ k ≠ "give" := by
  rcases h with rfl | rfl <;> exact ⟨by decide +kernel, by decide +kernel⟩
theorem four_hd {k : Str} (h : k ∈ fours) : k ≠ "second" ∧ k ≠ "give" ∧ k ≠ "left" ∧ k ≠ "right" ∧ k ≠ "when" := by
  have h0 : fours.all (fun k => decide (k ≠ "second") && decide (k ≠ "give") && decide (k ≠ "left") && decide (k ≠ "right") && decide (k ≠ "when")) = true := by decide +kernel
  have q := List.all_eq_true.mp h0 _ h
  simp only [Bool.and_eq_true, decide_eq_true_eq] at q
  exact ⟨q.1.1.1.1, q.1.1.1.2, q.1.1.2, q.1.2, q.2⟩
def spLOut (K : PySem.W.Frag) : Sp := fun vs H Q _ => ∃ (vp vf vw : V) (lf lw : Addr) (fs : List Fn) (d : Lz.P) (f : Fr) (as : List Addr) (S : Sto) (fr : List Fr) (ws : List Str) (fvs : List V) (w : Wt) (R : TR), vs = [vp, vf, vw, .ref lf, .ref lw] ∧ Dp K H vp (progD fs d) ∧ PrS fs d ∧ FrV K H as vf f ∧ WtV K H as [lf, lw] vw w ∧ Lst K H as lf lw S fr ws fvs ∧ lf ≠ lw ∧ OutR fs S f w R ∧ NumOk f w ∧ fr.length ≤ 30000 ∧ ws.length ≤ 500 ∧ (∀ (i : Nat) (g : Fn), fs[i]? = some g → g.2.1.length ≤ 4) ∧
  ∀ (v' : V) (H' : Hp), Kp [lf, lw] H H' → resO K H' as lf lw S fr ws v' R → Q v' H'
section
variable {P : Program} {w : World} {K : PySem.W.Frag} {mg : Str → Option Value} {base : Heap} {f : Addr} {fd : FuncData}
abbrev sLOut : Stmt := topS 41
theorem scLOut : FnScope ["_law_program", "_law_frame", "_law_worth", "_law_frames", "_law_words", "_law_part", "_law_known", "_law_given"] ["_law_program", "_law_frame", "_law_worth", "_law_frames", "_law_words"] (defScope sLOut) := ⟨rfl, rfl, rfl, by decide +kernel, rfl, by decide +kernel, by decide +kernel⟩
theorem ok_lout (F : Fun K "_law_out" "_law_out" sLOut f fd) (B : Bt mg) (CLSecond : C8.Cal P w K mg base 1 "_law_second" (spLSecond K) []) (CLWants : C8.Cal P w K mg base 1 "_law_wants" (spLWants K) []) (CLCalled : C8.Cal P w K mg base 1 "_law_called" (spLCalled K) []) : FnOk P w K mg base CX0 2 f fd ["_law_program", "_law_frame", "_law_worth", "_law_frames", "_law_words"] (spLOut K) := by
  have mint := B.int
  have ml := B.len
  refine F.ok scLOut (fun vs H Q E h => ?_) (fun cdv A outer s H vs Q E hr h => ?_)
  · obtain ⟨vp, vf, vw, lf, lw, fs, d, f, as, S, fr, ws, fvs, wt, R, rfl, _⟩ := h
    rfl
  have hu := units1 hr
  obtain ⟨vp, vf, vw, lf, lw, fs, d, f, as, S, fr, ws, fvs, wt, R, rfl, hp, hok, hf, hw, hL, hn, hO, hnum, hfr, hwl, h4, q⟩ := h
  refine ⟨_, (pss_cons (ps_asg (pv 1) (pg_tupK (K := K) (n := 2) rfl rfl (pgs_cons (pg_name (i := 5) scLOut.nd rfl (.inl rfl)) (pgs_cons (pg_name (i := 6) scLOut.nd rfl (.inl rfl)) pgs_nil))))
    (pss_cons (ps_if (pt_cmpR op_eq (pe_ix (ix_tupK (K := K) rfl) (pv 5) pe_int (fun _ _ => rfl)) pe_str (nomark _)) (pss_one (ps_ret (C8.pe_c CLSecond hr (by first | decide | omega) (by rfl) (pa_cons (pe_ix (ix_tupK (K := K) rfl) (pv 5) pe_int (fun _ _ => rfl)) (pa_cons (pe_ix (ix_tupK (K := K) rfl) (pv 5) pe_int (fun _ _ => rfl)) (pa_cons (pv 2) (pa_cons (pv 4) pa_nil))))))) pss_nil)
    (pss_cons (ps_if (PW.pt (pw_and (pt_cmpR op_eq (pe_ix (ix_tupK (K := K) rfl) (pv 5) pe_int (fun _ _ => rfl)) pe_str (nomark _)) (pw_and1 (pt_cmpR op_eq (pe_ix (ix_tupK (K := K) rfl) (pv 2) pe_int (fun _ _ => rfl)) pe_str (nomark _))))) (pss_cons (ps_set (i := 7) scLOut.nd rfl (.inl rfl) (pe_op op_cat (pe_ix (ix_tupK (K := K) rfl) (pv 2) pe_int (fun _ _ => rfl)) (pe_lst (pa_cons (pe_tup (pa_cons (pe_ix (ix_tupK (K := K) rfl) (pv 5) pe_int (fun _ _ => rfl)) (pa_cons (pv 6) pa_nil))) pa_nil))))
    (pss_cons (ps_if (pt_cmpR op_lt (pe_callB (call_lenK (K := K) rfl) (by rfl) ml PySem.boot_len (pa_cons (pv 7) pa_nil)) (C8.pe_c CLWants hr (by first | decide | omega) (by rfl) (pa_cons (pv 0) (pa_cons (pe_ix (ix_tupK (K := K) rfl) (pv 2) pe_int (fun _ _ => rfl)) pa_nil))) (nomark _)) (pss_one (ps_ret (pe_tup (pa_cons pe_non (pa_cons (pe_tup (pa_cons pe_str (pa_cons (pe_ix (ix_tupK (K := K) rfl) (pv 2) pe_int (fun _ _ => rfl)) (pa_cons (pv 7) pa_nil)))) (pa_cons pe_str pa_nil)))))) pss_nil)
    (pss_cons (ps_expr (pe_bmK (K := K) rfl PySem.F.plainAttrs_list PySem.F.slot_list_append PySem.F.type_list_append mt_append (pv 4) (pa_cons pe_str pa_nil)))
    (pss_one (ps_ret (pe_tup (pa_cons (C8.pe_c CLCalled hr (by first | decide | omega) (by rfl) (pa_cons (pv 0) (pa_cons (pe_ix (ix_tupK (K := K) rfl) (pv 2) pe_int (fun _ _ => rfl)) (pa_cons (pv 7) pa_nil)))) (pa_cons pe_non (pa_cons pe_str pa_nil))))))))) pss_nil)
    (pss_cons (ps_if (PW.pt (pw_and (pt_cmpR (op_inK (K := K) rfl) (pe_ix (ix_tupK (K := K) rfl) (pv 5) pe_int (fun _ _ => rfl)) (pe_tup (pa_cons pe_str (pa_cons pe_str pa_nil))) rfl) (pw_and1 (pt_cmpR op_eq (pe_ix (ix_tupK (K := K) rfl) (pv 2) pe_int (fun _ _ => rfl)) pe_str (nomark _))))) (pss_cons (ps_expr (pe_bmK (K := K) rfl PySem.F.plainAttrs_list PySem.F.slot_list_append PySem.F.type_list_append mt_append (pv 4) (pa_cons pe_str pa_nil)))
    (pss_one (ps_ret (pe_tup (pa_cons (pe_ix (ix_tupK (K := K) rfl) (pv 2) (pe_op op_add pe_int (pe_callTy call_int1 (by rfl) mint (by decide +kernel) (pa_cons (pe_cmpR op_eq (pe_ix (ix_tupK (K := K) rfl) (pv 5) pe_int (fun _ _ => rfl)) pe_str (nomark _)) pa_nil))) (fun _ _ => rfl)) (pa_cons pe_non (pa_cons pe_str pa_nil))))))) pss_nil)
    (pss_cons (ps_if (PW.pt (pw_or (pt_cmpR (op_inK (K := K) rfl) (pe_ix (ix_tupK (K := K) rfl) (pv 5) pe_int (fun _ _ => rfl)) (pe_tup (pa_cons pe_str (pa_cons pe_str (pa_cons pe_str pa_nil)))) rfl) (pw_or1 (pt_cmpR op_ne (pe_ix (ix_tupK (K := K) rfl) (pv 2) pe_int (fun _ _ => rfl)) pe_str (nomark _))))) (pss_one (ps_ret (pe_tup (pa_cons pe_non (pa_cons pe_non (pa_cons (pe_dget2 hu (pe_disp (pps_cons pe_str pe_str (pps_cons pe_str pe_str (pps_cons pe_str pe_str pps_nil))) rfl rfl (by intro q; cases q) (by decide)) (pe_ix (ix_tupK (K := K) rfl) (pv 5) pe_int (fun _ _ => rfl)) pe_str ⟨rfl, rfl, rfl, rfl⟩) pa_nil)))))) pss_nil)
    (pss_cons (ps_if (pt_cmpR op_eq (pe_ix (ix_tupK (K := K) rfl) (pv 5) pe_int (fun _ _ => rfl)) pe_str (nomark _)) (pss_cons (ps_expr (pe_bmK (K := K) rfl PySem.F.plainAttrs_list PySem.F.slot_list_append PySem.F.type_list_append mt_append (pv 4) (pa_cons pe_str pa_nil)))
    (pss_one (ps_ret (pe_tup (pa_cons (pe_tup (pa_cons (pe_ix (ix_tupK (K := K) rfl) (pv 5) (pe_op op_add pe_int (pe_callTy call_int1 (by rfl) mint (by decide +kernel) (pa_cons (pe_cmpR op_eq (pe_ix (ix_tupK (K := K) rfl) (pv 2) pe_int (fun _ _ => rfl)) pe_int (nomark _)) pa_nil))) (fun _ _ => rfl)) (pa_cons (pv 6) pa_nil))) (pa_cons pe_non (pa_cons pe_str pa_nil))))))) pss_nil)
    (pss_cons (ps_expr (pe_bmK (K := K) rfl PySem.F.plainAttrs_list PySem.F.slot_list_append PySem.F.type_list_append mt_append (pv 3) (pa_cons (pe_tup (pa_cons (pe_tup (pa_cons pe_str (pa_cons (pe_ix (ix_tupK (K := K) rfl) (pv 5) pe_int (fun _ _ => rfl)) (pa_cons (pe_ix (ix_tupK (K := K) rfl) (pv 2) pe_int (fun _ _ => rfl)) pa_nil)))) (pa_cons pe_dnewK pa_nil))) pa_nil)))
    (pss_one (ps_ret (pe_tup (pa_cons (pe_tup (pa_cons (pe_ix (ix_tupK (K := K) rfl) (pv 5) pe_int (fun _ _ => rfl)) (pa_cons (pv 6) pa_nil))) (pa_cons pe_non (pa_cons pe_str pa_nil))))))))))))), ?_⟩
  have hwl' : (ws.map V.str).length = ws.length := List.length_map ..
  have hfl : fvs.length = fr.length := by rw [All2.length hL.frs, List.length_reverse]
  have sub1 : ∀ x, x ∈ [lw] → x ∈ [lf, lw] := fun x m => List.mem_cons_of_mem _ m
  have fault : ∀ (x : Str) (H1 : Hp) (T : Addr), Kp [] H H1 → H1 T = none → R = .f x → Q (.ref T) (upd H1 T (.tup [.non, .non, .str x])) := fun x H1 T k1 hT e => by
    have kx := k1.trans (Kp.new (S := []) (o := .tup [.non, .non, .str x]) hT)
    refine q _ _ (kx.mono fun _ m => nomatch m) ?_
    rw [e]
    exact ⟨T, fvs, rfl, SqT.of upd_same, hL.keep kx⟩
  obtain ⟨Tw, rw_, rfl, hTw⟩ := hw.hd
  cases f with
  | sec k i =>
    obtain ⟨Tf, p, ad, rfl, hTf, hpp⟩ := hf
    refine ⟨_, rfl, Tf, _, rfl, hTf, rfl, _, _, rfl, _, _, rfl, rfl, ?_⟩
    refine ⟨_, rfl, p, _, _, _, rfl, rfl, hpp, at_of (j := 0) rfl rfl, rfl, _, rfl, ?_⟩
    refine ite2 (fun _ => ?_) (fun c => absurd (decide_eq_true rfl) c)
    refine ⟨_, rfl, p, _, _, _, rfl, rfl, hpp, at_of (j := 1) rfl rfl, _, rfl, p, _, _, _, rfl, rfl, hpp, at_of (j := 2) rfl rfl, _, rfl, _, rfl, ?_⟩
    exact ⟨.ref Tw, k, i, lf, lw, fs, as, S, fr, ws, fvs, wt, R, rfl, hw, hL, hn, hO, hnum, hwl, fun v' H' k' h' => q v' H' k' h'⟩
  | op k ps e =>
    obtain ⟨Tf, vq, ae, rfl, hTf, hvq, hae⟩ := (show CloV K H as vf (.op k ps, e) from hf)
    obtain ⟨p, xs, rfl, hpp, hxs⟩ := op_atU hvq
    refine ⟨_, rfl, Tf, _, rfl, hTf, rfl, _, _, rfl, _, _, rfl, rfl, ?_⟩
    refine ⟨_, rfl, p, _, _, _, rfl, rfl, hpp, at_of (j := 0) rfl rfl, rfl, _, rfl, ?_⟩
    have hsec : k ≠ "second" := by
      cases hO with
      | give _ _ => exact (show ("give" : Str) ≠ "second" by decide +kernel)
      | call _ _ => exact (show ("give" : Str) ≠ "second" by decide +kernel)
      | giveF _ => exact (show ("give" : Str) ≠ "second" by decide +kernel)
      | side h => exact (side_hd h).1
      | sideF h _ => exact (side_hd h).1
      | when => exact (show ("when" : Str) ≠ "second" by decide +kernel)
      | whenF _ => exact (show ("when" : Str) ≠ "second" by decide +kernel)
      | two h => exact (four_hd h).1
      | twoF h _ => exact (four_hd h).1
    refine ite2 (fun c => absurd (V.str.inj (of_decide_eq_true c)) hsec) (fun _ => ?_)
    refine ⟨_, rfl, p, _, _, _, rfl, rfl, hpp, at_of (j := 0) rfl rfl, rfl, _, rfl, ?_⟩
    -- what is told of a fault
    have flt : ∀ (x : Str) (H1 : Hp), Kp [] H H1 → R = .f x → ((k = "give" ∧ x = "function") ∨ ((k = "left" ∨ k = "right") ∧ x = "pair") ∨ (k ≠ "give" ∧ k ≠ "left" ∧ k ≠ "right" ∧ x = "number")) → ∀ (dd : Addr), H1 dd = none → ∃ o, DGet (upd (upd H1 dd (.dK [])) dd (.dK (mergeK [] [(Sum.inr ("give" : Str), V.str "function"), (Sum.inr "left", .str "pair"), (Sum.inr "right", .str "pair")]))) dd (.str k) o ∧ o.getD (.str "number") = .str x := fun x H1 _ _ hx dd _ => by
      refine ⟨_, DGet.k (k := Sum.inr k) upd_same, ?_⟩
      rcases hx with ⟨rfl, rfl⟩ | ⟨rfl | rfl, rfl⟩ | ⟨h1, h2, h3, rfl⟩
      · rfl
      · rfl
      · rfl
      · have e1 : valV (mergeK [] [(Sum.inr ("give" : Str), V.str "function"), (Sum.inr "left", .str "pair"), (Sum.inr "right", .str "pair")]) (Sum.inr k : Key) = none := by
          show valV [((Sum.inr ("give" : Str) : Key), V.str "function"), (Sum.inr "left", .str "pair"), (Sum.inr "right", .str "pair")] (Sum.inr k : Key) = none
          rw [valV_neg (fun z => h1 (Sum.inr.inj z).symm), valV_neg (fun z => h2 (Sum.inr.inj z).symm), valV_neg (fun z => h3 (Sum.inr.inj z).symm)]
          rfl
        rw [e1]
        rfl
    by_cases hg : k = "give"
    · subst hg
      refine ite2 (fun _ => ?_) (fun c => absurd (decide_eq_true rfl) c)
      refine ⟨_, rfl, Tw, _, _, _, rfl, rfl, hTw, at_of (j := 0) rfl rfl, rfl, _, rfl, ?_⟩
      have hsp : ∃ a b, ps = [a, b] ∧ ((isFn wt = false ∧ R = .f "function") ∨ ∃ (i : Nat) (g : Fn) (l : List Clo), fs[i]? = some g ∧ wt = .fn g.1 l ∧ ((l.length + 1 < g.2.1.length ∧ R = .w (.fn g.1 (l ++ [(b, e)])) []) ∨ (l.length + 1 = g.2.1.length ∧ R = .go (g.2.2, S.length) [] ["call"] [(callE g.2.1 (l ++ [(b, e)]), callT S g.2.1 (l ++ [(b, e)]))]))) := by
        cases hO with
        | give hi h => exact ⟨_, _, rfl, .inr ⟨_, _, _, hi, rfl, .inl ⟨h, rfl⟩⟩⟩
        | call hi h => exact ⟨_, _, rfl, .inr ⟨_, _, _, hi, rfl, .inr ⟨h, rfl⟩⟩⟩
        | giveF h => exact ⟨_, _, rfl, .inl ⟨h, rfl⟩⟩
        | side h => exact absurd rfl (side_hd h).2
        | sideF h _ => exact absurd rfl (side_hd h).2
        | two h => exact absurd rfl (four_hd h).2.1
        | twoF h _ => exact absurd rfl (four_hd h).2.1
      obtain ⟨a, b, rfl, hsp⟩ := hsp
      obtain ⟨va, r1, rfl, ha, hr1⟩ := DpAll.uncons hxs
      obtain ⟨vb, r2, rfl, hb, hr2⟩ := DpAll.uncons hr1
      cases hr2
      rcases hsp with ⟨hn', eR⟩ | ⟨i, g, l, hi, rfl, hend⟩
      · refine ite2 (fun c => absurd (V.str.inj (of_decide_eq_true c)) (hd_fn hn')) (fun _ => ?_)
        refine ⟨_, rfl, p, _, _, _, rfl, rfl, hpp, at_of (j := 0) rfl rfl, (by show 2 ≤ sizeLine; decide), fun T0 hT0 => ?_⟩
        have kx : Kp [] H (upd H T0 (.tup [.str "left", .str "right"])) := Kp.new hT0
        have h0 : SqT K (upd H T0 (.tup [.str "left", .str "right"])) T0 [.str "left", .str "right"] := SqT.of upd_same
        generalize upd H T0 (.tup [.str "left", .str "right"]) = H1 at kx h0 ⊢
        refine ⟨T0, _, rfl, .inr h0, rfl, rfl, _, rfl, ?_⟩
        rw [in2U]
        refine ite2 (fun c => absurd c (by decide +kernel)) (fun _ => ?_)
        refine ite2 (fun c => absurd c (by simp)) (fun _ => ?_)
        refine ⟨_, rfl, p, _, _, _, rfl, rfl, kx.sqT hpp, at_of (j := 0) rfl rfl, (by show 3 ≤ sizeLine; decide), fun T0 hT0 => ?_⟩
        have ky : Kp [] H1 (upd H1 T0 (.tup [.str "give", .str "left", .str "right"])) := Kp.new hT0
        have h0 : SqT K (upd H1 T0 (.tup [.str "give", .str "left", .str "right"])) T0 [.str "give", .str "left", .str "right"] := SqT.of upd_same
        have k2 := kx.trans ky
        generalize upd H1 T0 (.tup [.str "give", .str "left", .str "right"]) = H2 at k2 h0 ⊢
        refine ⟨T0, _, rfl, .inr h0, rfl, rfl, _, rfl, ?_⟩
        rw [in3U]
        refine ite2 (fun _ => ?_) (fun c => absurd (by decide +kernel) c)
        refine ite2 (fun _ => ?_) (fun c => absurd rfl c)
        refine fun dd hdd => ⟨upd_same, [(Sum.inr _, .str _), (Sum.inr _, .str _), (Sum.inr _, .str _)], rfl, (by show 3 ≤ 15; decide), ?_⟩
        obtain ⟨o, ho, eo⟩ := flt "function" H2 k2 eR (.inl ⟨rfl, rfl⟩) dd hdd
        have kd : Kp [] H2 (upd (upd H2 dd (.dK [])) dd (.dK (mergeK [] [(Sum.inr ("give" : Str), V.str "function"), (Sum.inr "left", .str "pair"), (Sum.inr "right", .str "pair")]))) := by rw [upd_upd]; exact Kp.new hdd
        refine ⟨dd, rfl, .inl ⟨_, .inl upd_same⟩, _, rfl, p, _, _, _, rfl, rfl, (k2.trans kd).sqT hpp, at_of (j := 0) rfl rfl, o, ho, ?_⟩
        rw [eo]
        exact ⟨(by show 3 ≤ sizeLine; decide), fun T hT => fault _ _ T (k2.trans kd) hT eR⟩
      · refine ite2 (fun _ => ?_) (fun c => absurd (decide_eq_true rfl) c)
        obtain ⟨Tw', pl, gvs_, e1, hTw2, hpl, hgs, hpA⟩ := hw
        obtain rfl := V.ref.inj e1
        have hgl := hgs.length
        have hl4 : l.length + 1 ≤ 4 := by
          have := h4 i g hi
          omega
        refine ⟨_, rfl, Tw, _, _, _, rfl, rfl, hTw2, at_of (j := 2) rfl rfl, _, rfl, p, _, _, _, rfl, rfl, hpp, at_of (j := 2) rfl rfl, _, rfl, (by show 2 ≤ sizeLine; decide), fun T1 hT1 => ?_⟩
        have ka : Kp [] H (upd H T1 (.tup [vb, .ref ae])) := Kp.new hT1
        have h1 : SqT K (upd H T1 (.tup [vb, .ref ae])) T1 [vb, .ref ae] := SqT.of upd_same
        have hpl1 := ka.lst hpl (fun m => nomatch m)
        have hgs1 : All2 (CloV K (upd H T1 (.tup [vb, .ref ae])) as) gvs_ l := hgs.mono fun v c q => q.keep0 ka
        have hb1 := Dp.keep ka _ _ (data_fz _) hb
        generalize upd H T1 (.tup [vb, .ref ae]) = H1 at ka h1 hpl1 hgs1 hb1 ⊢
        refine ⟨(by show 1 ≤ sizeLine; decide), fun l1 hl1 => ?_⟩
        have kb : Kp [] H1 (upd H1 l1 (.lst [.ref T1])) := Kp.new hl1
        have h2 : (upd H1 l1 (.lst [.ref T1])) l1 = some (.lst [.ref T1]) := upd_same
        have h1 := kb.sqT h1
        have hpl2 := kb.lst hpl1 (fun m => nomatch m)
        have hgs2 : All2 (CloV K (upd H1 l1 (.lst [.ref T1])) as) gvs_ l := hgs1.mono fun v c q => q.keep0 kb
        have hb2 := Dp.keep kb _ _ (data_fz _) hb1
        have k2 := ka.trans kb
        generalize upd H1 l1 (.lst [.ref T1]) = H2 at h1 h2 hpl2 hgs2 hb2 k2 ⊢
        refine ⟨pl, l1, _, _, rfl, rfl, hpl2, h2, Nat.le_of_lt (small60000 (by rw [List.length_singleton]; omega)), fun l2 hl2 => ?_⟩
        have kc : Kp [] H2 (upd H2 l2 (.lst (gvs_ ++ [.ref T1]))) := Kp.new hl2
        have h3 : (upd H2 l2 (.lst (gvs_ ++ [.ref T1]))) l2 = some (.lst (gvs_ ++ [.ref T1])) := upd_same
        have hgs3 : All2 (CloV K (upd H2 l2 (.lst (gvs_ ++ [.ref T1]))) as) (gvs_ ++ [.ref T1]) (l ++ [(b, e)]) := (hgs2.snoc (show CloV K H2 as (.ref T1) (b, e) from ⟨T1, vb, ae, rfl, h1, hb2, hae⟩)).mono fun v c q => q.keep0 kc
        have k3 := k2.trans kc
        have nl2 : l2 ∉ [lf, lw] := fun m => by
          have g1 := (hL.keep k2).lf
          have g2 := (hL.keep k2).lw
          rcases List.mem_cons.mp m with e | m
          · rw [← e, hl2] at g1; cases g1
          · rw [← List.mem_singleton.mp m, hl2] at g2; cases g2
        generalize upd H2 l2 (.lst (gvs_ ++ [.ref T1])) = H3 at h3 hgs3 k3 ⊢
        refine ⟨_, rfl, l2, _, rfl, .inl (SqL.of h3), _, rfl, _, rfl, Tw, _, _, _, rfl, rfl, k3.sqT hTw2, at_of (j := 1) rfl rfl, vp, fs, d, i, g, rfl, Dp.keep k3 _ _ (progU_fz _ _) hp, hok.ok, hi, fun H4 k4 => ?_⟩
        have k34 := k3.trans k4
        have h4l := k4.lst h3 (fun m => nomatch m)
        have hgs4 : All2 (CloV K H4 as) (gvs_ ++ [.ref T1]) (l ++ [(b, e)]) := hgs3.mono fun v c q => q.keep0 k4
        have hL4 := hL.keep k34
        have elen : (gvs_ ++ [V.ref T1]).length = l.length + 1 := by rw [List.length_append, hgl]; rfl
        refine ⟨_, _, rfl, rfl, _, rfl, ?_⟩
        rcases hend with ⟨hlt, eR⟩ | ⟨heq, eR⟩
        · refine ite2 (fun _ => ?_) (fun c => absurd (decide_eq_true (by rw [elen]; omega)) c)
          refine ⟨_, rfl, Tw, _, _, _, rfl, rfl, k34.sqT hTw2, at_of (j := 1) rfl rfl, _, rfl, (by show 3 ≤ sizeLine; decide), fun T3 hT3 => ⟨(by show 3 ≤ sizeLine; decide), fun T4 hT4 => ?_⟩⟩
          have kz : Kp [] H4 (upd H4 T3 (.tup [.str "function", .str g.1, .ref l2])) := Kp.new hT3
          have ku : Kp [] (upd H4 T3 (.tup [.str "function", .str g.1, .ref l2])) (upd (upd H4 T3 (.tup [.str "function", .str g.1, .ref l2])) T4 (.tup [.non, .ref T3, .str ""])) := Kp.new hT4
          refine q _ _ ((k34.trans (kz.trans ku)).mono fun _ m => nomatch m) ?_
          rw [eR]
          refine ⟨.ref T3, T4, fvs, rfl, SqT.of upd_same, ⟨T3, l2, _, rfl, ku.sqT (SqT.of upd_same), (kz.trans ku).lst h4l (fun m => nomatch m), hgs4.mono fun v c q => q.keep0 (kz.trans ku), nl2⟩, ?_⟩
          rw [List.append_nil]
          exact hL4.keep (kz.trans ku)
        · refine ite2 (fun c => absurd (of_decide_eq_true c) (by rw [elen]; omega)) (fun _ => ?_)
          refine ⟨_, rfl, .inl ⟨rfl, _, SqL.of hL4.lw⟩, lw, _, _, rfl, rfl, hL4.lw, small60000 (by omega), ?_⟩
          obtain ⟨hL5, k5⟩ := hL4.word hn [("call" : Str)]
          have nlw : ¬ l2 ∈ [lw] := fun m => nl2 (List.mem_cons_of_mem _ m)
          have h5l := k5.lst h4l nlw
          have hgs5 : All2 (CloV K (upd H4 lw (.lst (ws.map V.str ++ [("call" : Str)].map V.str))) as) (gvs_ ++ [.ref T1]) (l ++ [(b, e)]) := hgs4.mono fun v c q => q.keep0 k5
          show tSeq _ _ _ _ (upd H4 lw (.lst (ws.map V.str ++ [("call" : Str)].map V.str)))
          have k5 := (k34.mono (T := [lw]) fun _ m => nomatch m).trans k5
          generalize upd H4 lw (.lst (ws.map V.str ++ [("call" : Str)].map V.str)) = H5 at hL5 k5 h5l hgs5 ⊢
          refine ⟨_, rfl, _, rfl, Tw, _, _, _, rfl, rfl, k5.sqT hTw2, at_of (j := 1) rfl rfl, _, rfl, vp, fs, d, i, g, l2, _, l ++ [(b, e)], as, rfl, Dp.keep k5 _ _ (progU_fz _ _) hp, hok, hi, h5l, hgs5, by rw [List.length_append]; exact heq, by rw [List.length_append]; exact hl4, fun T3 vb3 D kvs H6 k6 hD h6 hvb6 hDk hek => ?_⟩
          refine ⟨(by show 3 ≤ sizeLine; decide), fun T4 hT4 => ?_⟩
          have kz : Kp [] H6 (upd H6 T4 (.tup [.ref T3, .non, .str ""])) := Kp.new hT4
          refine q _ _ ((k5.trans ((k6.trans kz).mono fun _ m => nomatch m)).mono sub1) ?_
          rw [eR]
          have he2 := hek.keepT (Tk.of kz) []
          rw [List.append_nil] at he2
          refine ⟨[D], .ref T3, T4, fvs, rfl, SqT.of upd_same, ⟨T3, vb3, D, rfl, kz.sqT h6, Dp.keep kz _ _ (data_fz _) hvb6, ?_⟩, ?_⟩
          · show (as ++ [D])[S.length]? = some D
            rw [← hL.sto.len, List.getElem?_concat_length]
          · exact (hL5.keep (k6.trans kz)).env (kz _ _ hDk (fun m => nomatch m)) he2
    · refine ite2 (fun c => absurd (V.str.inj (of_decide_eq_true c)) hg) (fun _ => ?_)
      refine ite2 (fun c => absurd c (by simp)) (fun _ => ?_)
      refine ⟨_, rfl, p, _, _, _, rfl, rfl, hpp, at_of (j := 0) rfl rfl, (by show 2 ≤ sizeLine; decide), fun T0 hT0 => ?_⟩
      have kx : Kp [] H (upd H T0 (.tup [.str "left", .str "right"])) := Kp.new hT0
      have h0 : SqT K (upd H T0 (.tup [.str "left", .str "right"])) T0 [.str "left", .str "right"] := SqT.of upd_same
      generalize upd H T0 (.tup [.str "left", .str "right"]) = H1 at kx h0 ⊢
      refine ⟨T0, _, rfl, .inr h0, rfl, rfl, _, rfl, ?_⟩
      rw [in2U]
      by_cases hs : k = "left" ∨ k = "right"
      · refine ite2 (fun _ => ?_) (fun c => absurd (by simpa using hs) c)
        refine ⟨_, rfl, Tw, _, _, _, rfl, rfl, kx.sqT hTw, at_of (j := 0) rfl rfl, rfl, _, rfl, ?_⟩
        have hsp : ∃ a, ps = [a] ∧ ((isPr wt = false ∧ R = .f "pair") ∨ ∃ x y, wt = .pair x y ∧ R = .go (if k = "left" then x else y) [] ["side"] []) := by
          cases hO with
          | give _ _ => exact absurd rfl hg
          | call _ _ => exact absurd rfl hg
          | giveF _ => exact absurd rfl hg
          | side h => exact ⟨_, rfl, .inr ⟨_, _, rfl, rfl⟩⟩
          | sideF h hn' => exact ⟨_, rfl, .inl ⟨hn', rfl⟩⟩
          | when => exact hs.elim (fun h => absurd h (by decide +kernel)) (fun h => absurd h (by decide +kernel))
          | whenF _ => exact hs.elim (fun h => absurd h (by decide +kernel)) (fun h => absurd h (by decide +kernel))
          | two h => exact hs.elim (fun q => absurd q (four_hd h).2.2.1) (fun q => absurd q (four_hd h).2.2.2.1)
          | twoF h _ => exact hs.elim (fun q => absurd q (four_hd h).2.2.1) (fun q => absurd q (four_hd h).2.2.2.1)
        obtain ⟨a, rfl, hsp⟩ := hsp
        rcases hsp with ⟨hn', eR⟩ | ⟨x, y, rfl, eR⟩
        · refine ite2 (fun c => absurd (V.str.inj (of_decide_eq_true c)) (hd_pr hn')) (fun _ => ?_)
          refine ⟨_, rfl, p, _, _, _, rfl, rfl, kx.sqT hpp, at_of (j := 0) rfl rfl, (by show 3 ≤ sizeLine; decide), fun T0 hT0 => ?_⟩
          have ky : Kp [] H1 (upd H1 T0 (.tup [.str "give", .str "left", .str "right"])) := Kp.new hT0
          have h0 : SqT K (upd H1 T0 (.tup [.str "give", .str "left", .str "right"])) T0 [.str "give", .str "left", .str "right"] := SqT.of upd_same
          have k2 := kx.trans ky
          generalize upd H1 T0 (.tup [.str "give", .str "left", .str "right"]) = H2 at k2 h0 ⊢
          refine ⟨T0, _, rfl, .inr h0, rfl, rfl, _, rfl, ?_⟩
          rw [in3U]
          refine ite2 (fun _ => ?_) (fun c => absurd (by rcases hs with h | h <;> simp [h]) c)
          refine ite2 (fun _ => ?_) (fun c => absurd rfl c)
          refine fun dd hdd => ⟨upd_same, [(Sum.inr _, .str _), (Sum.inr _, .str _), (Sum.inr _, .str _)], rfl, (by show 3 ≤ 15; decide), ?_⟩
          obtain ⟨o, ho, eo⟩ := flt "pair" H2 k2 eR (.inr (.inl ⟨hs, rfl⟩)) dd hdd
          have kd : Kp [] H2 (upd (upd H2 dd (.dK [])) dd (.dK (mergeK [] [(Sum.inr ("give" : Str), V.str "function"), (Sum.inr "left", .str "pair"), (Sum.inr "right", .str "pair")]))) := by rw [upd_upd]; exact Kp.new hdd
          refine ⟨dd, rfl, .inl ⟨_, .inl upd_same⟩, _, rfl, p, _, _, _, rfl, rfl, (k2.trans kd).sqT hpp, at_of (j := 0) rfl rfl, o, ho, ?_⟩
          rw [eo]
          exact ⟨(by show 3 ≤ sizeLine; decide), fun T hT => fault _ _ T (k2.trans kd) hT eR⟩
        · refine ite2 (fun _ => ?_) (fun c => absurd (decide_eq_true rfl) c)
          obtain ⟨Tw', va, vb, e1, hTw2, hva, hvb⟩ := hw
          obtain rfl := V.ref.inj e1
          have hL1 := hL.keep kx
          refine ⟨_, rfl, .inl ⟨rfl, _, SqL.of hL1.lw⟩, lw, _, _, rfl, rfl, hL1.lw, small60000 (by omega), ?_⟩
          obtain ⟨hL2, k2⟩ := hL1.word hn [("side" : Str)]
          show tSeq _ _ _ _ (upd H1 lw (.lst (ws.map V.str ++ [("side" : Str)].map V.str)))
          have k2 := (kx.mono (T := [lw]) fun _ m => nomatch m).trans k2
          generalize upd H1 lw (.lst (ws.map V.str ++ [("side" : Str)].map V.str)) = H2 at hL2 k2 ⊢
          have hTw3 := k2.sqT hTw2
          have hva3 := hva.keep0 k2
          have hvb3 := hvb.keep0 k2
          obtain ⟨wv, hat, hwv⟩ : ∃ wv : V, atI [.str "pair", va, vb] (1 + (if decide (V.str k = V.str "right") = true then 1 else 0)) = some wv ∧ CloV K H2 as wv (if k = "left" then x else y) := by
            rcases hs with rfl | rfl
            · exact ⟨va, rfl, by rw [if_pos rfl]; exact hva3⟩
            · exact ⟨vb, rfl, by rw [if_neg (by decide +kernel)]; exact hvb3⟩
          refine ⟨_, rfl, _, rfl, p, _, _, _, rfl, rfl, k2.sqT hpp, at_of (j := 0) rfl rfl, rfl, .inr ⟨_, rfl, _, _, rfl, rfl, Tw, _, _, _, rfl, rfl, hTw3, hat, (by show 3 ≤ sizeLine; decide), fun T hT => ?_⟩⟩
          have kz : Kp [] H2 (upd H2 T (.tup [wv, .non, .str ""])) := Kp.new hT
          refine q _ _ ((k2.trans (kz.mono fun _ m => nomatch m)).mono sub1) ?_
          rw [eR]
          refine ⟨[], wv, T, fvs, rfl, SqT.of upd_same, hwv.keep kz [], ?_⟩
          rw [List.append_nil, List.append_nil]
          exact hL2.keep kz
      · refine ite2 (fun c => absurd (by simpa using c) hs) (fun _ => ?_)
        refine ite2 (fun c => absurd c (by simp)) (fun _ => ?_)
        have hsl : k ≠ "left" := fun e => hs (.inl e)
        have hsr : k ≠ "right" := fun e => hs (.inr e)
        refine ⟨_, rfl, p, _, _, _, rfl, rfl, kx.sqT hpp, at_of (j := 0) rfl rfl, (by show 3 ≤ sizeLine; decide), fun T0 hT0 => ?_⟩
        have ky : Kp [] H1 (upd H1 T0 (.tup [.str "give", .str "left", .str "right"])) := Kp.new hT0
        have h0 : SqT K (upd H1 T0 (.tup [.str "give", .str "left", .str "right"])) T0 [.str "give", .str "left", .str "right"] := SqT.of upd_same
        have k2 := kx.trans ky
        generalize upd H1 T0 (.tup [.str "give", .str "left", .str "right"]) = H2 at k2 h0 ⊢
        refine ⟨T0, _, rfl, .inr h0, rfl, rfl, _, rfl, ?_⟩
        rw [in3U]
        refine ite2 (fun c => absurd (of_decide_eq_true c) (by simp [hg, hsl, hsr])) (fun _ => ?_)
        refine ⟨_, rfl, Tw, _, _, _, rfl, rfl, k2.sqT hTw, at_of (j := 0) rfl rfl, rfl, _, rfl, ?_⟩
        have hsp : (isNum wt = false ∧ R = .f "number") ∨ ∃ i, wt = .num i ∧ ((k = "when" ∧ ∃ a b c, ps = [a, b, c] ∧ R = .go (if i ≠ 0 then b else c, e) [] ["turn"] []) ∨ (k ∈ fours ∧ ∃ a b, ps = [a, b] ∧ R = .go (b, e) [.sec k i] [] [])) := by
          cases hO with
          | give _ _ => exact absurd rfl hg
          | call _ _ => exact absurd rfl hg
          | giveF _ => exact absurd rfl hg
          | side h => exact absurd h hs
          | sideF h _ => exact absurd h hs
          | when => exact .inr ⟨_, rfl, .inl ⟨rfl, _, _, _, rfl, rfl⟩⟩
          | whenF h => exact .inl ⟨h, rfl⟩
          | two h => exact .inr ⟨_, rfl, .inr ⟨h, _, _, rfl, rfl⟩⟩
          | twoF _ h => exact .inl ⟨h, rfl⟩
        rcases hsp with ⟨hn', eR⟩ | ⟨i, rfl, hend⟩
        · refine ite2 (fun _ => ?_) (fun c => absurd (by simpa using hd_num hn') c)
          refine fun dd hdd => ⟨upd_same, [(Sum.inr _, .str _), (Sum.inr _, .str _), (Sum.inr _, .str _)], rfl, (by show 3 ≤ 15; decide), ?_⟩
          obtain ⟨o, ho, eo⟩ := flt "number" H2 k2 eR (.inr (.inr ⟨hg, hsl, hsr, rfl⟩)) dd hdd
          have kd : Kp [] H2 (upd (upd H2 dd (.dK [])) dd (.dK (mergeK [] [(Sum.inr ("give" : Str), V.str "function"), (Sum.inr "left", .str "pair"), (Sum.inr "right", .str "pair")]))) := by rw [upd_upd]; exact Kp.new hdd
          refine ⟨dd, rfl, .inl ⟨_, .inl upd_same⟩, _, rfl, p, _, _, _, rfl, rfl, (k2.trans kd).sqT hpp, at_of (j := 0) rfl rfl, o, ho, ?_⟩
          rw [eo]
          exact ⟨(by show 3 ≤ sizeLine; decide), fun T hT => fault _ _ T (k2.trans kd) hT eR⟩
        refine ite2 (fun c => absurd c (by simp [wtHd])) (fun _ => ?_)
        obtain ⟨Tw', e1, hTw2⟩ := hw
        obtain rfl := V.ref.inj e1
        have hL2 := hL.keep k2
        have hpp2 := k2.sqT hpp
        have hTw3 := k2.sqT hTw2
        refine ⟨_, rfl, p, _, _, _, rfl, rfl, hpp2, at_of (j := 0) rfl rfl, rfl, _, rfl, ?_⟩
        rcases hend with ⟨rfl, a, b, c, rfl, eR⟩ | ⟨h4k, a, b, rfl, eR⟩
        · obtain ⟨va, r1, rfl, ha, hr1⟩ := DpAll.uncons hxs
          obtain ⟨vb, r2, rfl, hb, hr2⟩ := DpAll.uncons hr1
          obtain ⟨vc, r3, rfl, hc, hr3⟩ := DpAll.uncons hr2
          cases hr3
          refine ite2 (fun _ => ?_) (fun c => absurd (decide_eq_true rfl) c)
          refine ⟨_, rfl, .inl ⟨rfl, _, SqL.of hL2.lw⟩, lw, _, _, rfl, rfl, hL2.lw, small60000 (by omega), ?_⟩
          obtain ⟨hL3, k3⟩ := hL2.word hn [("turn" : Str)]
          show tSeq _ _ _ _ (upd H2 lw (.lst (ws.map V.str ++ [("turn" : Str)].map V.str)))
          have k3 := (k2.mono (T := [lw]) fun _ m => nomatch m).trans k3
          generalize upd H2 lw (.lst (ws.map V.str ++ [("turn" : Str)].map V.str)) = H3 at hL3 k3 ⊢
          obtain ⟨wv, hat, hwv⟩ : ∃ wv : V, atI [.str "when", va, vb, vc] (2 + (if decide (V.int i = V.int 0) = true then 1 else 0)) = some wv ∧ Dp K H3 wv (if i ≠ 0 then b else c).data := by
            by_cases h0 : i = 0
            · subst h0
              exact ⟨vc, rfl, by rw [if_neg (by simp)]; exact Dp.keep k3 _ _ (data_fz _) hc⟩
            · refine ⟨vb, ?_, by rw [if_pos h0]; exact Dp.keep k3 _ _ (data_fz _) hb⟩
              rw [if_neg (fun z => h0 (V.int.inj (of_decide_eq_true z)))]
              rfl
          refine ⟨_, rfl, _, rfl, Tw, _, _, _, rfl, rfl, k3.sqT hTw2, at_of (j := 1) rfl rfl, rfl, .inr ⟨_, rfl, _, _, rfl, rfl, p, _, _, _, rfl, rfl, k3.sqT hpp, hat, _, rfl, (by show 2 ≤ sizeLine; decide), fun T hT => ?_⟩⟩
          have kz : Kp [] H3 (upd H3 T (.tup [wv, .ref ae])) := Kp.new hT
          refine ⟨(by show 3 ≤ sizeLine; decide), fun T2 hT2 => ?_⟩
          have ku : Kp [] (upd H3 T (.tup [wv, .ref ae])) (upd (upd H3 T (.tup [wv, .ref ae])) T2 (.tup [.ref T, .non, .str ""])) := Kp.new hT2
          refine q _ _ ((k3.trans ((kz.trans ku).mono fun _ m => nomatch m)).mono sub1) ?_
          rw [eR]
          refine ⟨[], .ref T, T2, fvs, rfl, SqT.of upd_same, ⟨T, wv, ae, rfl, ku.sqT (SqT.of upd_same), Dp.keep (kz.trans ku) _ _ (data_fz _) hwv, by rw [List.append_nil]; exact hae⟩, ?_⟩
          rw [List.append_nil, List.append_nil]
          exact hL3.keep (kz.trans ku)
        · obtain ⟨va, r1, rfl, ha, hr1⟩ := DpAll.uncons hxs
          obtain ⟨vb, r2, rfl, hb, hr2⟩ := DpAll.uncons hr1
          cases hr2
          refine ite2 (fun c => absurd (V.str.inj (of_decide_eq_true c)) (four_hd h4k).2.2.2.2) (fun _ => ?_)
          refine ⟨_, rfl, .inl ⟨rfl, _, SqL.of hL2.lf⟩, _, rfl, p, _, _, _, rfl, rfl, hpp2, at_of (j := 0) rfl rfl, _, rfl, Tw, _, _, _, rfl, rfl, k2.sqT hTw2, at_of (j := 1) rfl rfl, (by show 3 ≤ sizeLine; decide), fun T1 hT1 => ?_⟩
          have ka : Kp [] H2 (upd H2 T1 (.tup [.str "second", .str k, .int i])) := Kp.new hT1
          have h1 : SqT K (upd H2 T1 (.tup [.str "second", .str k, .int i])) T1 [.str "second", .str k, .int i] := SqT.of upd_same
          have hL3 := hL2.keep ka
          have k3 := k2.trans ka
          show ∀ D, _ → _
          intro D hD
          have kd : Kp [] (upd H2 T1 (.tup [.str "second", .str k, .int i])) (upd (upd H2 T1 (.tup [.str "second", .str k, .int i])) D (.dK [])) := Kp.new hD
          have h1 := kd.sqT h1
          have hL4 := hL3.keep kd
          have k4 := k3.trans kd
          generalize upd (upd H2 T1 (.tup [.str "second", .str k, .int i])) D (.dK []) = H4 at h1 hL4 k4 ⊢
          refine ⟨(by show 2 ≤ sizeLine; decide), fun T2 hT2 => ?_⟩
          have ke : Kp [] H4 (upd H4 T2 (.tup [.ref T1, .ref D])) := Kp.new hT2
          have h2 : SqT K (upd H4 T2 (.tup [.ref T1, .ref D])) T2 [.ref T1, .ref D] := SqT.of upd_same
          have h1 := ke.sqT h1
          have hL5 := hL4.keep ke
          have k5 := k4.trans ke
          generalize upd H4 T2 (.tup [.ref T1, .ref D]) = H5 at h1 h2 hL5 k5 ⊢
          refine ⟨lf, _, _, rfl, rfl, hL5.lf, small60000 (by omega), ?_⟩
          obtain ⟨hL6, k6⟩ := hL5.frame hn (f := .sec k i) (v := .ref T2) ⟨T2, T1, D, rfl, h2, h1⟩
          have k6 := (k5.mono (T := [lf]) fun _ m => nomatch m).trans k6
          generalize upd H5 lf (.lst (fvs ++ [.ref T2])) = H6 at hL6 k6 ⊢
          refine ⟨_, rfl, p, _, _, _, rfl, rfl, k6.sqT hpp, at_of (j := 2) rfl rfl, _, rfl, (by show 2 ≤ sizeLine; decide), fun T3 hT3 => ⟨(by show 3 ≤ sizeLine; decide), fun T4 hT4 => ?_⟩⟩
          have kz : Kp [] H6 (upd H6 T3 (.tup [vb, .ref ae])) := Kp.new hT3
          have ku : Kp [] (upd H6 T3 (.tup [vb, .ref ae])) (upd (upd H6 T3 (.tup [vb, .ref ae])) T4 (.tup [.ref T3, .non, .str ""])) := Kp.new hT4
          refine q _ _ ((k6.trans ((kz.trans ku).mono fun _ m => nomatch m)).mono fun y m => by rw [List.mem_singleton.mp m]; exact List.mem_cons_self) ?_
          rw [eR]
          refine ⟨[], .ref T3, T4, fvs ++ [.ref T2], rfl, SqT.of upd_same, ⟨T3, vb, ae, rfl, ku.sqT (SqT.of upd_same), Dp.keep (k6.trans ((kz.trans ku).mono fun _ m => nomatch m)) _ _ (data_fz _) hb, by rw [List.append_nil]; exact hae⟩, ?_⟩
          rw [List.append_nil, List.append_nil, List.append_nil]
          exact hL6.keep (kz.trans ku)
end
end Lz

set_option Elab.async false
set_option linter.all false
set_option maxRecDepth 100000
set_option maxHeartbeats 4000000
/-! A list compared with an empty one, whatever it holds. -/
namespace Lz
open PySem PySem.Spec PyProof.Rows L2
def rEqNil (K : PySem.W.Frag) : R2 := fun x y H Q => ∃ a b xs, x = .ref a ∧ y = .ref b ∧ SqL K H a xs ∧ SqL K H b [] ∧ Q (.bl xs.isEmpty) H
theorem op_eqNil {X : Cx} {K : PySem.W.Frag} (h : X.K = K) (hu : X.A.units < cLine) : OpR X (compareOp .Eq) (rEqNil K) := by
  subst h
  intro pins s σ H x y v u Q I rx ry h
  obtain ⟨a, b, xs, rfl, rfl, ha, hb, q⟩ := h
  cases (show v = Value.ref a from rx)
  cases (show u = Value.ref b from ry)
  obtain ⟨us, r1, p1, _⟩ := I.list ha
  obtain ⟨ws, r2, p2, _⟩ := I.list hb
  have e2 : ws = [] := by cases r2; rfl
  subst e2
  cases xs with
  | nil =>
    have e1 : us = [] := by cases r1; rfl
    subst e1
    exact SeqAt.RcAt.lists (e := fun _ => true) p1.isList p2.isList rfl hu (fun j h1 _ => absurd h1 (Nat.not_lt_zero _)) X.prog X.w _ _ ⟨.bl _, H, I, rfl, q⟩
  | cons x xs =>
    have hsz : (us.toArray.size != ([] : List Value).toArray.size) = true := by
      have := r1.length
      rw [List.size_toArray, ← this]
      rfl
    exact SeqAt.RcAt.lists_lengths p1.isList p2.isList hsz hu X.prog X.w _ _ ⟨.bl _, H, I, rfl, q⟩
end Lz

set_option Elab.async false
set_option linter.all false
set_option maxRecDepth 100000
set_option maxHeartbeats 8000000
namespace Lz
open PySem PySem.Spec PyProof.Rows L2
section
variable {fs : List Fn} {S : Sto} {fr : List Fr}
theorem Vst.ev {c : Clo ⊕ Wt} (v : Vst fs c fr S) : ∀ x, x ∈ fr.map (cF S) → Ev x := fun x mx => by
  obtain ⟨f, hf, rfl⟩ := List.mem_map.mp mx
  exact (v.frk f hf).ev
theorem Vst.len {c : Clo ⊕ Wt} (v : Vst fs c fr S) : fr.length ≤ 30000 := by
  have h1 := plug_deep _ v.ev (mF S c)
  rw [List.length_map] at h1
  have h2 := v.dp
  have h3 : (whole c fr S) = plugP (fr.map (cF S)) (mF S c) := rfl
  rw [h3] at h2
  omega
theorem Vst.env {p : Lz.P} {e : Nat} (v : Vst fs (.inl (p, e)) fr S) : (envS S e).length ≤ 5000000 := by
  have hl : e < S.length := v.fo.lt
  have h1 := (v.so e _ _ (S_get hl)).2
  have h2 := v.sl
  omega
theorem Vst.let60 {p : Lz.P} {e : Nat} (v : Vst fs (.inl (p, e)) fr S) : ∀ nm bs b, p = .lt nm bs b → nm.length ≤ 60 := fun nm bs b q => by
  subst q
  have h1 := ok_unplug _ v.ev v.ok
  have h2 : Lz.P.mws (Lz.P.puts (thS S e) bs) ≤ 60 := (show _ ∧ _ from h1.iv).1
  have h3 := mws_len (Lz.P.puts (thS S e) bs)
  rw [puts_len] at h3
  have h4 : nm.length = bs.length := (show nm.length = bs.length ∧ _ from v.fo.pc.ok).1
  omega
theorem Vst.num {f : Fr} {w : Wt} (v : Vst fs (.inr w) (f :: fr) S) : NumOk f w := by
  cases f with
  | op k ps e => cases w <;> exact True.intro
  | sec k i =>
    cases w with
    | pair a b => exact True.intro
    | fn f l => exact True.intro
    | num j =>
      have h1 := ok_unplug (fr.map (cF S)) (fun x m => v.ev x (List.mem_cons_of_mem _ m)) (t := .op k [.num i, .num j]) v.ok
      have h2 : i.natAbs < 10 ^ 60 ∧ j.natAbs < 10 ^ 60 ∧ True := h1.nums
      exact ⟨h2.1, h2.2.1⟩
end
/-- what the law's putting in tells -/
def resC (K : PySem.W.Frag) (H0 H : Hp) (as : List Addr) (most : Nat) (v : V) (wf : List Str) : RL → Prop
  | .w w S' => ∃ (as' : List Addr) (vw : V) (lw T : Addr), v = .ref T ∧ SqT K H T [.str "worth", vw, .ref lw] ∧ H0 lw = none ∧ H lw = some (.lst (wf.map V.str)) ∧ WtV K H (as ++ as') [] vw w ∧ StoAt K H (as ++ as') S'
  | .f x => ∃ (lw T : Addr), v = .ref T ∧ SqT K H T [.str "fault", .str x, .ref lw] ∧ H0 lw = none ∧ H lw = some (.lst (wf.map V.str))
  | .more => ∃ (lw T : Addr), v = .ref T ∧ SqT K H T [.str "more", .non, .ref lw] ∧ H0 lw = none ∧ H lw = some (.lst ((wf.take most).map V.str))
def spLCome (K : PySem.W.Frag) : Sp := fun vs H Q _ => ∃ (vp vh : V) (most n : Nat) (fs : List Fn) (d : Lz.P) (c : Clo) (as : List Addr) (S : Sto) (r : RL) (wf : List Str), vs = [vp, vh, .int (most : Nat)] ∧ most ≤ 400 ∧ Dp K H vp (progD fs d) ∧ PrS fs d ∧ PrC fs ∧ PrPl fs ∧ SPl S ∧ c.1.nsh ∧ StoAt K H as S ∧ CloV K H as vh c ∧ LR fs most n (.inl c) [] S [] r wf ∧
  ∀ (v' : V) (H' : Hp), Kp [] H H' → resC K H H' as most v' wf r → Q v' H'
/-- where the law's loop is: at a part, or at a worth -/
def foV (K : PySem.W.Frag) (H : Hp) (as : List Addr) (lf lw : Addr) (v1 : Option V) (v5 : V) : Clo ⊕ Wt → Prop
  | .inl c => ∃ vh, v1 = some vh ∧ CloV K H as vh c ∧ v5 = .non
  | .inr w => WtV K H as [lf, lw] v5 w
theorem WtV.none {K : PySem.W.Frag} {H : Hp} {as Av : List Addr} {v : V} {w : Wt} (h : WtV K H as Av v w) : WtV K H as [] v w := by
  cases w with
  | num i => exact h
  | pair a b => exact h
  | fn f l =>
    obtain ⟨T, pl, vs, e, h1, h2, h3, h4⟩ := h
    exact ⟨T, pl, vs, e, h1, h2, h3, fun m => nomatch m⟩
section
variable {P : Program} {w : World} {K : PySem.W.Frag} {mg : Str → Option Value} {base : Heap} {f : Addr} {fd : FuncData}
abbrev sLCome : Stmt := topS 42
theorem scLCome : FnScope ["_law_program", "_law_here", "_law_most", "_law_frames", "_law_words", "_law_worth", "_law_fault"] ["_law_program", "_law_here", "_law_most"] (defScope sLCome) := ⟨rfl, rfl, rfl, by decide +kernel, rfl, by decide +kernel, by decide +kernel⟩
theorem ok_lcome (F : Fun K "_law_come" "_law_come" sLCome f fd) (B : Bt mg) (CLInto : C8.Cal P w K mg base 2 "_law_into" (spLInto K) []) (CLOut : C8.Cal P w K mg base 2 "_law_out" (spLOut K) []) : FnOk P w K mg base CX0 3 f fd ["_law_program", "_law_here", "_law_most"] (spLCome K) := by
  have ml := B.len
  refine F.ok scLCome (fun vs H Q E h => ?_) (fun cdv A outer s H vs Q E hr h => ?_)
  · obtain ⟨vp, vh, most, n, fs, d, c, as, S, r, wf, rfl, _⟩ := h
    rfl
  have hu0 : (A.deeper (envOfC (Str.ofString "_law_come") (defScope sLCome) s.heap.objs.size f cdv)).units < cLine := by
    have := units1 hr
    omega
  obtain ⟨vp, vh, most, n, fs, d, c, as, S, r, wf, rfl, hm4, hp, hok, hpc, hpp, hSp, hcp, hS, hc, hlr, q⟩ := h
  have h4 : ∀ (i : Nat) (g : Fn), fs[i]? = some g → g.2.1.length ≤ 4 := fun i g h => (hpc i g h).2.2.2
  refine ⟨_, (pss_cons (ps_set (i := 3) scLCome.nd rfl (.inl rfl) (pe_lst pa_nil))
    (pss_cons (ps_set (i := 4) scLCome.nd rfl (.inl rfl) (pe_lst pa_nil))
    (pss_cons (ps_set (i := 5) scLCome.nd rfl (.inl rfl) pe_non)
    (pss_cons (ps_while PassesOwn.never (pt_cmpR op_le (pe_callB (call_lenK (K := K) rfl) (by rfl) ml PySem.boot_len (pa_cons (pv 4) pa_nil)) (pv 2) (nomark _)) (pss_one (ps_if (pt_cmpR op_isN (pv 5) pe_non (nomark _)) (pss_one (ps_asg (C8.pe_c CLInto hr (by first | decide | omega) (by rfl) (pa_cons (pv 0) (pa_cons (pv 1) (pa_cons (pv 3) (pa_cons (pv 4) pa_nil))))) (pg_tupK (K := K) (n := 2) rfl rfl (pgs_cons (pg_name (i := 1) scLCome.nd rfl (.inl rfl)) (pgs_cons (pg_name (i := 5) scLCome.nd rfl (.inl rfl)) pgs_nil))))) (pss_one (ps_if (pt_cmpR (op_eqNil (K := K) rfl hu0) (pv 3) (pe_lst pa_nil) (nomark _)) (pss_one (ps_ret (pe_tup (pa_cons pe_str (pa_cons (pv 5) (pa_cons (pv 4) pa_nil)))))) (pss_cons (ps_asg (C8.pe_c CLOut hr (by first | decide | omega) (by rfl) (pa_cons (pv 0) (pa_cons (pe_bm0K (K := K) rfl PySem.F.plainAttrs_list PySem.F.slot_list_pop PySem.F.type_list_pop mt_pop (pv 3)) (pa_cons (pv 5) (pa_cons (pv 3) (pa_cons (pv 4) pa_nil)))))) (pg_tupK (K := K) (n := 3) rfl rfl (pgs_cons (pg_name (i := 1) scLCome.nd rfl (.inl rfl)) (pgs_cons (pg_name (i := 5) scLCome.nd rfl (.inl rfl)) (pgs_cons (pg_name (i := 6) scLCome.nd rfl (.inl rfl)) pgs_nil)))))
    (pss_one (ps_if (pt_cmpR op_ne (pv 6) pe_str (nomark _)) (pss_one (ps_ret (pe_tup (pa_cons pe_str (pa_cons (pv 6) (pa_cons (pv 4) pa_nil)))))) pss_nil))))))))
    (pss_one (ps_ret (pe_tup (pa_cons pe_str (pa_cons pe_non (pa_cons (pe_slice (sl_listK (K := K) rfl) (pv 4) po_none (po_some (pv 2))) pa_nil)))))))))), ?_⟩
  refine ⟨Nat.zero_le _, fun lf hlf => ?_⟩
  have k1 : Kp [] H (upd H lf (.lst [])) := Kp.new hlf
  have hf1 : (upd H lf (.lst [])) lf = some (.lst []) := upd_same
  generalize upd H lf (.lst []) = H1 at k1 hf1 ⊢
  refine ⟨Nat.zero_le _, fun lw hlw => ?_⟩
  have nfw : lf ≠ lw := fun e => by rw [← e, hf1] at hlw; cases hlw
  have hlwH : H lw = none := by
    cases e : H lw with
    | none => rfl
    | some o => rw [k1 _ _ e (fun m => nomatch m)] at hlw; cases hlw
  have k2 : Kp [] H1 (upd H1 lw (.lst [])) := Kp.new hlw
  have hL : Lst K (upd H1 lw (.lst [])) as lf lw S [] [] [] := ⟨hS.keep (k1.trans k2), by rw [upd_ne nfw]; exact hf1, .nil, upd_same⟩
  have hc2 := hc.keep0 (k1.trans k2)
  have k2 := k1.trans k2
  generalize upd H1 lw (.lst []) = H2 at k2 hL hc2 ⊢
  have via : ∀ {H3 H4 : Hp}, Kp [] H H3 → Kp [lf, lw] H3 H4 → Kp [] H H4 := fun {H3 H4} k k' b x e n => k' b x (k b x e n) fun m => by
    rcases List.mem_cons.mp m with rfl | m
    · rw [hlf] at e; cases e
    · rw [List.mem_singleton.mp m, hlwH] at e; cases e
  refine ⟨fun m σ H' => ∃ (v1 : Option V) (v5 : V) (v6 : Option V) (c : Clo ⊕ Wt) (xs : List Addr) (S : Sto) (fr : List Fr) (ws : List Str) (fvs : List V), σ = [some vp, v1, some (.int (most : Nat)), some (.ref lf), some (.ref lw), some v5, v6] ∧ Kp [] H H' ∧ Lst K H' (as ++ xs) lf lw S fr ws fvs ∧ foV K H' (as ++ xs) lf lw v1 v5 c ∧ LR fs most m c fr S ws r wf ∧ CPl c ∧ (∀ f, f ∈ fr → FPl f) ∧ SPl S,
    ⟨n, _, _, _, .inl c, [], S, [], [], [], rfl, k2, by rw [List.append_nil]; exact hL, by rw [List.append_nil]; exact ⟨vh, rfl, hc2, rfl⟩, hlr, hcp, (fun _ m => nomatch m), hSp⟩, ?_⟩
  clear hL hc2 k2 hlr hS hc hSp hcp
  rintro m σ H3 ⟨v1, v5, v6, c, xs, S, fr, ws, fvs, rfl, k3, hL, hfo, hlr, hcp, hfp, hSp⟩
  have hwl' : (ws.map V.str).length = ws.length := List.length_map ..
  refine ⟨_, rfl, lw, _, rfl, .inl (SqL.of hL.lw), _, rfl, _, _, rfl, rfl, _, rfl, ?_⟩
  have hp3 := Dp.keep k3 _ _ (progU_fz _ _) hp
  have k3L := k3
  let tgt : L2.St → Hp → Prop := fun σ' H' => ∃ m', m' < m ∧ ∃ (v1 : Option V) (v5 : V) (v6 : Option V) (c : Clo ⊕ Wt) (xs : List Addr) (S : Sto) (fr : List Fr) (ws : List Str) (fvs : List V), σ' = [some vp, v1, some (.int (most : Nat)), some (.ref lf), some (.ref lw), some v5, v6] ∧ Kp [] H H' ∧ Lst K H' (as ++ xs) lf lw S fr ws fvs ∧ foV K H' (as ++ xs) lf lw v1 v5 c ∧ LR fs most m' c fr S ws r wf ∧ CPl c ∧ (∀ f, f ∈ fr → FPl f) ∧ SPl S
  refine ite2 (fun cw => ⟨tgt, fun σ' H' h => h, ?_⟩) (fun cw => ?_)
  · have hwm : ws.length ≤ most := by
      have := of_decide_eq_true cw
      rw [hwl'] at this
      omega
    cases hlr with
    | more h _ => exact absurd hwm (by omega)
    | @fin w S ws _ v =>
      obtain ⟨Tw, rw_, rfl, hTw⟩ := WtV.hd hfo
      refine ⟨_, rfl, rfl, _, rfl, ?_⟩
      refine ite2 (fun c => absurd (of_decide_eq_true c) (fun e => nomatch e)) (fun _ => ?_)
      have hfv : fvs = [] := by
        have := All2.length hL.frs
        exact List.eq_nil_of_length_eq_zero this
      subst hfv
      refine ⟨_, rfl, Nat.zero_le _, fun l0 hl0 => ?_⟩
      have kx : Kp [] H3 (upd H3 l0 (.lst [])) := Kp.new hl0
      refine ⟨lf, l0, [], rfl, rfl, SqL.of (kx.lst hL.lf (fun m => nomatch m)), SqL.of upd_same, _, rfl, ?_⟩
      refine ite2 (fun _ => ?_) (fun c => absurd rfl c)
      refine ⟨_, rfl, _, rfl, (by show 3 ≤ sizeLine; decide), fun T hT => ?_⟩
      have ky : Kp [] (upd H3 l0 (.lst [])) (upd (upd H3 l0 (.lst [])) T (.tup [.str "worth", .ref Tw, .ref lw])) := Kp.new hT
      have kk := kx.trans ky
      exact q _ _ (k3.trans kk) ⟨xs, .ref Tw, lw, T, rfl, SqT.of upd_same, hlwH, (kk.lst hL.lw (fun m => nomatch m)), (WtV.keep0 hfo kk (fun _ m => nomatch m)).none, hL.sto.keep kk⟩
    | @intoG n p e fr fr' S es ws ws' wf c r _ v hi h2 =>
      have hx := into_pl hpp hSp hi hcp
      obtain ⟨vh, rfl, hcv, rfl⟩ := hfo
      refine ⟨_, rfl, rfl, _, rfl, ?_⟩
      refine ite2 (fun _ => ?_) (fun c => absurd (decide_eq_true rfl) c)
      refine ⟨_, rfl, _, rfl, _, rfl, _, rfl, vp, vh, lf, lw, fs, d, p, e, as ++ xs, S, fr, ws, fvs, _, rfl, hp3, hok, hcv, hL, nfw, hi, v.fo.pc.ok, Lz.P.nsh.hd hcp, v.len, by omega, v.env, v.let60, fun v' H4 k4 hres => ?_⟩
      obtain ⟨as', vh', T, fvs', rfl, hT, hcl, hL4⟩ := hres
      refine ⟨T, _, rfl, hT, rfl, _, _, rfl, _, _, rfl, rfl, ?_⟩
      rw [List.append_assoc] at hcl hL4
      exact ⟨n, Nat.lt_succ_self _, _, _, _, .inl c, xs ++ as', _, _, _, fvs', rfl, via k3 k4, hL4, ⟨vh', rfl, hcl, rfl⟩, h2, hx.1, (fun f m => (List.mem_append.mp m).elim (hx.2.1 f) (hfp f)), hx.2.2.1⟩
    | @intoW n p e fr S ws ws' wf w r _ v hi h2 =>
      obtain ⟨vh, rfl, hcv, rfl⟩ := hfo
      refine ⟨_, rfl, rfl, _, rfl, ?_⟩
      refine ite2 (fun _ => ?_) (fun c => absurd (decide_eq_true rfl) c)
      refine ⟨_, rfl, _, rfl, _, rfl, _, rfl, vp, vh, lf, lw, fs, d, p, e, as ++ xs, S, fr, ws, fvs, _, rfl, hp3, hok, hcv, hL, nfw, hi, v.fo.pc.ok, Lz.P.nsh.hd hcp, v.len, by omega, v.env, v.let60, fun v' H4 k4 hres => ?_⟩
      obtain ⟨vw, T, fvs', rfl, hT, hcl, hL4⟩ := hres
      refine ⟨T, _, rfl, hT, rfl, _, _, rfl, _, _, rfl, rfl, ?_⟩
      exact ⟨n, Nat.lt_succ_self _, _, _, _, .inr w, xs, _, _, _, fvs', rfl, via k3 k4, hL4, hcl, h2, into_pl hpp hSp hi hcp, hfp, hSp⟩
    | @outG n w f0 fr fr' S es ws ws' wf c r _ v ho h2 =>
      have hx := out_pl hpp hSp ho (hfp _ List.mem_cons_self) hcp
      obtain ⟨Tw, rw_, rfl, hTw⟩ := WtV.hd hfo
      refine ⟨_, rfl, rfl, _, rfl, ?_⟩
      refine ite2 (fun c => absurd (of_decide_eq_true c) (fun e => nomatch e)) (fun _ => ?_)
      obtain ⟨vi, vf, rfl, hfi, hfv⟩ := FrsV.unsnoc hL.frs
      refine ⟨_, rfl, Nat.zero_le _, fun l0 hl0 => ?_⟩
      have kx : Kp [] H3 (upd H3 l0 (.lst [])) := Kp.new hl0
      have h0 : (upd H3 l0 (.lst [])) l0 = some (.lst []) := upd_same
      have hL1 := hL.keep kx
      have hfv1 := FrV.keep hfv kx []
      rw [List.append_nil] at hfv1
      have hfi1 := FrsV.keep0 hfi kx
      have hfo1 : WtV K (upd H3 l0 (.lst [])) (as ++ xs) [lf, lw] (.ref Tw) w := WtV.keep0 hfo kx (fun _ m => nomatch m)
      have k3x := k3.trans kx
      generalize upd H3 l0 (.lst []) = H4 at h0 hL1 hfv1 hfi1 hfo1 k3x ⊢
      refine ⟨lf, l0, _, rfl, rfl, SqL.of hL1.lf, SqL.of h0, _, rfl, ?_⟩
      have hne : (vi ++ [vf]).isEmpty = false := by cases vi <;> rfl
      rw [hne]
      refine ite2 (fun c => absurd c (by simp)) (fun _ => ?_)
      refine ⟨_, rfl, _, rfl, .inl ⟨rfl, _, SqL.of hL1.lf⟩, lf, _, vf, rfl, rfl, hL1.lf, ?_, ?_⟩
      · rw [List.length_append]
        show (vi ++ [vf])[vi.length + 1 - 1]? = some vf
        rw [Nat.add_sub_cancel, List.getElem?_append_right (Nat.le_refl _), Nat.sub_self]
        rfl
      rw [List.dropLast_concat]
      have kp : Kp [lf] H4 (upd H4 lf (.lst vi)) := Kp.put hL1.lf List.mem_cons_self
      have kp2 : Kp [lf, lw] H4 (upd H4 lf (.lst vi)) := kp.mono fun y m => by rw [List.mem_singleton.mp m]; exact List.mem_cons_self
      have hL5 : Lst K (upd H4 lf (.lst vi)) (as ++ xs) lf lw S fr ws vi := ⟨hL1.sto.keep kp, upd_same, FrsV.keep0 hfi1 kp, by rw [upd_ne nfw.symm]; exact hL1.lw⟩
      have hfv5 := FrV.keep hfv1 kp []
      rw [List.append_nil] at hfv5
      have hfo5 : WtV K (upd H4 lf (.lst vi)) (as ++ xs) [lf, lw] (.ref Tw) w := WtV.keep0 hfo1 kp2 (fun _ m => m)
      have k5 := via k3x kp2
      generalize upd H4 lf (.lst vi) = H5 at hL5 hfv5 hfo5 k5 ⊢
      have hlen := v.len
      rw [List.length_cons] at hlen
      refine ⟨_, rfl, _, rfl, _, rfl, vp, vf, .ref Tw, lf, lw, fs, d, f0, as ++ xs, S, fr, ws, vi, w, _, rfl, Dp.keep k5 _ _ (progU_fz _ _) hp, hok, hfv5, hfo5, hL5, nfw, ho, v.num, by omega, by omega, h4, fun v' H6 k6 hres => ?_⟩
      obtain ⟨as', vh', T, fvs', rfl, hT, hcl, hL6⟩ := hres
      refine ⟨T, _, rfl, hT, rfl, _, _, rfl, _, _, rfl, _, _, rfl, rfl, ?_⟩
      refine ⟨_, rfl, rfl, _, rfl, ?_⟩
      refine ite2 (fun c => absurd c (by simp)) (fun _ => ?_)
      rw [List.append_assoc] at hcl hL6
      exact ⟨n, Nat.lt_succ_self _, _, _, _, .inl c, xs ++ as', _, _, _, fvs', rfl, via k5 k6, hL6, ⟨vh', rfl, hcl, rfl⟩, h2, hx.1, (fun f m => (List.mem_append.mp m).elim (hx.2.1 f) (fun m => hfp f (List.mem_cons_of_mem _ m))), hx.2.2.1⟩
    | @outW n w w' f0 fr S ws ws' wf r _ v ho h2 =>
      obtain ⟨Tw, rw_, rfl, hTw⟩ := WtV.hd hfo
      refine ⟨_, rfl, rfl, _, rfl, ?_⟩
      refine ite2 (fun c => absurd (of_decide_eq_true c) (fun e => nomatch e)) (fun _ => ?_)
      obtain ⟨vi, vf, rfl, hfi, hfv⟩ := FrsV.unsnoc hL.frs
      refine ⟨_, rfl, Nat.zero_le _, fun l0 hl0 => ?_⟩
      have kx : Kp [] H3 (upd H3 l0 (.lst [])) := Kp.new hl0
      have h0 : (upd H3 l0 (.lst [])) l0 = some (.lst []) := upd_same
      have hL1 := hL.keep kx
      have hfv1 := FrV.keep hfv kx []
      rw [List.append_nil] at hfv1
      have hfi1 := FrsV.keep0 hfi kx
      have hfo1 : WtV K (upd H3 l0 (.lst [])) (as ++ xs) [lf, lw] (.ref Tw) w := WtV.keep0 hfo kx (fun _ m => nomatch m)
      have k3x := k3.trans kx
      generalize upd H3 l0 (.lst []) = H4 at h0 hL1 hfv1 hfi1 hfo1 k3x ⊢
      refine ⟨lf, l0, _, rfl, rfl, SqL.of hL1.lf, SqL.of h0, _, rfl, ?_⟩
      have hne : (vi ++ [vf]).isEmpty = false := by cases vi <;> rfl
      rw [hne]
      refine ite2 (fun c => absurd c (by simp)) (fun _ => ?_)
      refine ⟨_, rfl, _, rfl, .inl ⟨rfl, _, SqL.of hL1.lf⟩, lf, _, vf, rfl, rfl, hL1.lf, ?_, ?_⟩
      · rw [List.length_append]
        show (vi ++ [vf])[vi.length + 1 - 1]? = some vf
        rw [Nat.add_sub_cancel, List.getElem?_append_right (Nat.le_refl _), Nat.sub_self]
        rfl
      rw [List.dropLast_concat]
      have kp : Kp [lf] H4 (upd H4 lf (.lst vi)) := Kp.put hL1.lf List.mem_cons_self
      have kp2 : Kp [lf, lw] H4 (upd H4 lf (.lst vi)) := kp.mono fun y m => by rw [List.mem_singleton.mp m]; exact List.mem_cons_self
      have hL5 : Lst K (upd H4 lf (.lst vi)) (as ++ xs) lf lw S fr ws vi := ⟨hL1.sto.keep kp, upd_same, FrsV.keep0 hfi1 kp, by rw [upd_ne nfw.symm]; exact hL1.lw⟩
      have hfv5 := FrV.keep hfv1 kp []
      rw [List.append_nil] at hfv5
      have hfo5 : WtV K (upd H4 lf (.lst vi)) (as ++ xs) [lf, lw] (.ref Tw) w := WtV.keep0 hfo1 kp2 (fun _ m => m)
      have k5 := via k3x kp2
      generalize upd H4 lf (.lst vi) = H5 at hL5 hfv5 hfo5 k5 ⊢
      have hlen := v.len
      rw [List.length_cons] at hlen
      refine ⟨_, rfl, _, rfl, _, rfl, vp, vf, .ref Tw, lf, lw, fs, d, f0, as ++ xs, S, fr, ws, vi, w, _, rfl, Dp.keep k5 _ _ (progU_fz _ _) hp, hok, hfv5, hfo5, hL5, nfw, ho, v.num, by omega, by omega, h4, fun v' H6 k6 hres => ?_⟩
      obtain ⟨vw, T, fvs', rfl, hT, hcl, hL6⟩ := hres
      refine ⟨T, _, rfl, hT, rfl, _, _, rfl, _, _, rfl, _, _, rfl, rfl, ?_⟩
      refine ⟨_, rfl, rfl, _, rfl, ?_⟩
      refine ite2 (fun c => absurd c (by simp)) (fun _ => ?_)
      exact ⟨n, Nat.lt_succ_self _, _, _, _, .inr w', xs, _, _, _, fvs', rfl, via k5 k6, hL6, hcl, h2, out_pl hpp hSp ho (hfp _ List.mem_cons_self) hcp, (fun f m => hfp f (List.mem_cons_of_mem _ m)), hSp⟩
    | @outF w f0 fr S ws x _ v ho =>
      obtain ⟨Tw, rw_, rfl, hTw⟩ := WtV.hd hfo
      refine ⟨_, rfl, rfl, _, rfl, ?_⟩
      refine ite2 (fun c => absurd (of_decide_eq_true c) (fun e => nomatch e)) (fun _ => ?_)
      obtain ⟨vi, vf, rfl, hfi, hfv⟩ := FrsV.unsnoc hL.frs
      refine ⟨_, rfl, Nat.zero_le _, fun l0 hl0 => ?_⟩
      have kx : Kp [] H3 (upd H3 l0 (.lst [])) := Kp.new hl0
      have h0 : (upd H3 l0 (.lst [])) l0 = some (.lst []) := upd_same
      have hL1 := hL.keep kx
      have hfv1 := FrV.keep hfv kx []
      rw [List.append_nil] at hfv1
      have hfi1 := FrsV.keep0 hfi kx
      have hfo1 : WtV K (upd H3 l0 (.lst [])) (as ++ xs) [lf, lw] (.ref Tw) w := WtV.keep0 hfo kx (fun _ m => nomatch m)
      have k3x := k3.trans kx
      generalize upd H3 l0 (.lst []) = H4 at h0 hL1 hfv1 hfi1 hfo1 k3x ⊢
      refine ⟨lf, l0, _, rfl, rfl, SqL.of hL1.lf, SqL.of h0, _, rfl, ?_⟩
      have hne : (vi ++ [vf]).isEmpty = false := by cases vi <;> rfl
      rw [hne]
      refine ite2 (fun c => absurd c (by simp)) (fun _ => ?_)
      refine ⟨_, rfl, _, rfl, .inl ⟨rfl, _, SqL.of hL1.lf⟩, lf, _, vf, rfl, rfl, hL1.lf, ?_, ?_⟩
      · rw [List.length_append]
        show (vi ++ [vf])[vi.length + 1 - 1]? = some vf
        rw [Nat.add_sub_cancel, List.getElem?_append_right (Nat.le_refl _), Nat.sub_self]
        rfl
      rw [List.dropLast_concat]
      have kp : Kp [lf] H4 (upd H4 lf (.lst vi)) := Kp.put hL1.lf List.mem_cons_self
      have kp2 : Kp [lf, lw] H4 (upd H4 lf (.lst vi)) := kp.mono fun y m => by rw [List.mem_singleton.mp m]; exact List.mem_cons_self
      have hL5 : Lst K (upd H4 lf (.lst vi)) (as ++ xs) lf lw S fr wf vi := ⟨hL1.sto.keep kp, upd_same, FrsV.keep0 hfi1 kp, by rw [upd_ne nfw.symm]; exact hL1.lw⟩
      have hfv5 := FrV.keep hfv1 kp []
      rw [List.append_nil] at hfv5
      have hfo5 : WtV K (upd H4 lf (.lst vi)) (as ++ xs) [lf, lw] (.ref Tw) w := WtV.keep0 hfo1 kp2 (fun _ m => m)
      have k5 := via k3x kp2
      generalize upd H4 lf (.lst vi) = H5 at hL5 hfv5 hfo5 k5 ⊢
      have hlen := v.len
      rw [List.length_cons] at hlen
      refine ⟨_, rfl, _, rfl, _, rfl, vp, vf, .ref Tw, lf, lw, fs, d, f0, as ++ xs, S, fr, wf, vi, w, _, rfl, Dp.keep k5 _ _ (progU_fz _ _) hp, hok, hfv5, hfo5, hL5, nfw, ho, v.num, by omega, by omega, h4, fun v' H6 k6 hres => ?_⟩
      obtain ⟨T, fvs', rfl, hT, hL6⟩ := hres
      refine ⟨T, _, rfl, hT, rfl, _, _, rfl, _, _, rfl, _, _, rfl, rfl, ?_⟩
      refine ⟨_, rfl, rfl, _, rfl, ?_⟩
      have hx : x ≠ "" := by
        cases ho <;> decide +kernel
      refine ite2 (fun _ => ?_) (fun c => absurd (by simpa using hx) c)
      refine ⟨_, rfl, _, rfl, (by show 3 ≤ sizeLine; decide), fun T2 hT2 => ?_⟩
      have ky : Kp [] H6 (upd H6 T2 (.tup [.str "fault", .str x, .ref lw])) := Kp.new hT2
      exact q _ _ ((via k5 k6).trans ky) ⟨lw, T2, rfl, SqT.of upd_same, hlwH, ky.lst hL6.lw (fun m => nomatch m)⟩
  · have hwm : most < ws.length := by
      have : ¬ (((ws.map V.str).length : Nat) : Int) ≤ (most : Nat) := fun z => cw (decide_eq_true z)
      rw [hwl'] at this
      omega
    cases hlr with
    | more h h2 =>
      refine ⟨_, rfl, _, rfl, _, rfl, lw, _, rfl, SqL.of hL.lw, fun l2 hl2 => ?_⟩
      rw [cutV_to2, ← List.map_take]
      have kx : Kp [] H3 (upd H3 l2 (.lst ((wf.take most).map V.str))) := Kp.new hl2
      have h2 : (upd H3 l2 (.lst ((wf.take most).map V.str))) l2 = some (.lst ((wf.take most).map V.str)) := upd_same
      have hl2H : H l2 = none := by
        cases e : H l2 with
        | none => rfl
        | some o => rw [k3 _ _ e (fun m => nomatch m)] at hl2; cases hl2
      have k4 := k3.trans kx
      generalize upd H3 l2 (.lst ((wf.take most).map V.str)) = H4 at h2 k4 ⊢
      refine ⟨(by show 3 ≤ sizeLine; decide), fun T hT => ?_⟩
      have ky : Kp [] H4 (upd H4 T (.tup [.str "more", .non, .ref l2])) := Kp.new hT
      exact q _ _ (k4.trans ky) ⟨l2, T, rfl, SqT.of upd_same, hl2H, ky.lst h2 (fun m => nomatch m)⟩
    | fin h _ => omega
    | intoG h _ _ _ => omega
    | intoW h _ _ _ => omega
    | outG h _ _ _ => omega
    | outW h _ _ _ => omega
    | outF h _ _ => omega
end
end Lz

set_option Elab.async false
set_option linter.all false
set_option maxRecDepth 100000
set_option maxHeartbeats 8000000
namespace Lz
open PySem PySem.Spec PyProof.Rows L2
def spLed (K : PySem.W.Frag) : Sp := fun vs H Q _ => ∃ (vp v : V) (most : Nat) (fs : List Fn) (d t : Lz.P) (ws : List Str) (r : Rs) (l : Fl), vs = [vp, v, .int (most : Nat)] ∧ most ≤ 400 ∧ Dp K H vp (progD fs d) ∧ PrS fs d ∧ Pr10 fs d 60 12 ∧ Dp K H v t.data ∧ Ok10 fs 60 12 t ∧ Cm fs d most 0 t ws r ∧ FlR r l ∧ t.mw + 121 * (most + 1) ≤ 60000 ∧ t.deep + 12 * (most + 1) ≤ 30000 ∧
  ∀ (pa : Addr) (vc : V) (lw : Addr) (H' : Hp), Kp [] H H' → H lw = none → SqT K H' pa [vc, .ref lw] → Dp K H' vc l.data → H' lw = some (.lst (ws.map V.str)) → Q (.ref pa) H'
section
variable {P : Program} {w : World} {K : PySem.W.Frag} {mg : Str → Option Value} {base : Heap} {f : Addr} {fd : FuncData}
abbrev sLed : Stmt := topS 33
theorem scLed : FnScope ["program", "part", "most", "come", "words"] ["program", "part", "most"] (defScope sLed) := ⟨rfl, rfl, rfl, by decide +kernel, rfl, by decide +kernel, by decide +kernel⟩
theorem ok_led (F : Fun K "led" "led" sLed f fd) (CComeTo : C8.Cal P w K mg base 9 "come_to" (spComeTo K) []) (CFlat : C8.Cal P w K mg base 2 "flat" (spFlat K) []) : FnOk P w K mg base CX0 10 f fd ["program", "part", "most"] (spLed K) := by
  refine F.ok scLed (fun vs H Q E h => ?_) (fun cdv A outer s H vs Q E hr h => ?_)
  · obtain ⟨vp, v, most, fs, d, t, ws, r, l, rfl, _⟩ := h
    rfl
  obtain ⟨vp, v, most, fs, d, t, ws, r, l, rfl, hm4, hp, hok, hpr, hd, hto, hcm, hfl, hmw, hde, q⟩ := h
  refine ⟨_, (pss_cons (ps_asg (C8.pe_c CComeTo hr (by first | decide | omega) (by rfl) (pa_cons (pv 0) (pa_cons (pv 1) (pa_cons (pv 2) pa_nil)))) (pg_tupK (K := K) (n := 2) rfl rfl (pgs_cons (pg_name (i := 3) scLed.nd rfl (.inl rfl)) (pgs_cons (pg_name (i := 4) scLed.nd rfl (.inl rfl)) pgs_nil))))
    (pss_one (ps_ret (pe_tup (pa_cons (C8.pe_c CFlat hr (by first | decide | omega) (by rfl) (pa_cons (pv 3) pa_nil)) (pa_cons (pv 4) pa_nil)))))), ?_⟩
  refine ⟨_, rfl, _, rfl, _, rfl, vp, v, most, fs, d, t, ws, r, rfl, hm4, hp, hok, hpr, hd, hto, hcm, hmw, hde, fun pa vc lw H1 k1 hlw hpa hvc hlw1 => ?_⟩
  refine ⟨pa, _, rfl, hpa, rfl, _, _, rfl, _, _, rfl, rfl, ?_⟩
  refine ⟨_, rfl, vc, r, l, rfl, hvc, hfl, fun v' H2 k2 hv' => ?_⟩
  refine ⟨_, rfl, (by show 2 ≤ sizeLine; decide), fun T hT => ?_⟩
  have kx : Kp [] H2 (upd H2 T (.tup [v', .ref lw])) := Kp.new hT
  exact q T v' lw _ ((k1.trans k2).trans kx) hlw (SqT.of upd_same) (Dp.keep kx _ _ (Fl.fz _) hv') (kx.lst (k2.lst hlw1 (fun m => nomatch m)) (fun m => nomatch m))
end
end Lz

set_option Elab.async false
set_option linter.all false
set_option maxRecDepth 100000
set_option maxHeartbeats 8000000
namespace Lz
open PySem PySem.Spec PyProof.Rows L2
theorem cutV_to (xs : List V) (k : Nat) : cutV xs none (some (k : Int)) = xs.take k := by
  unfold cutV
  rw [HT.sIx_none, HT.sIx_nat, List.drop_zero, Nat.sub_zero]
  by_cases h : k ≤ xs.length
  · rw [Nat.min_eq_left h]
  · rw [Nat.min_eq_right (by omega), List.take_of_length_le (Nat.le_refl _), List.take_of_length_le (by omega)]
theorem cutV_from (xs : List V) (k : Nat) : cutV xs (some (k : Int)) none = xs.drop k := by
  unfold cutV
  rw [HT.sIx_none, HT.sIx_nat]
  by_cases h : k ≤ xs.length
  · rw [Nat.min_eq_left h]
    exact List.take_of_length_le (by rw [List.length_drop]; exact Nat.le_refl _)
  · rw [Nat.min_eq_right (by omega), List.drop_eq_nil_of_le (Nat.le_refl _), List.drop_eq_nil_of_le (by omega)]
    exact List.take_nil
def spPen (K : PySem.W.Frag) : Sp := fun vs H Q _ => ∃ (s : Addr) (ns : List Int), vs = [.ref s] ∧ SqL K H s (ns.map V.int) ∧ ns.length ≤ 63 ∧ ∀ (p a : Addr) (H' : Hp), Same H H' → H p = none → H a = none → PenAt H' p a → Q (.ref p) H'
theorem fd_fz : ∀ fs : List Fn, fzAll (fs.map fD) = true
  | [] => rfl
  | f :: r => by
    show ((true && (fzAll (f.2.1.map .str) && (fz f.2.2.data && true))) && fzAll (r.map fD)) = true
    rw [fd_fz r, strs_fz, data_fz]
    rfl
section
variable {P : Program} {w : World} {K : PySem.W.Frag} {mg : Str → Option Value} {base : Heap} {f : Addr} {fd : FuncData}
abbrev sLPen : Stmt := topS 35
theorem scLPen : FnScope ["_law_script"] ["_law_script"] (defScope sLPen) := ⟨rfl, rfl, rfl, by decide +kernel, rfl, by decide +kernel, by decide +kernel⟩
theorem ok_pen (F : Fun K "_law_pen" "_law_pen" sLPen f fd) (B : Bt mg) : FnOk P w K mg base CX0 1 f fd ["_law_script"] (spPen K) := by
  have mlist := B.list
  refine F.ok scLPen (fun vs H Q E h => ?_) (fun cdv A outer s H vs Q E hr h => ?_)
  · obtain ⟨s, ns, rfl, _⟩ := h
    rfl
  obtain ⟨s0, ns, rfl, hS, hlen, k⟩ := h
  refine ⟨_, (pss_one (ps_ret (pe_lst (pa_cons (pe_callTy (call_listK (K := K) rfl) (by rfl) mlist (by decide +kernel) (pa_cons (pe_slice (sl_listK (K := K) rfl) (pv 0) po_none (po_some pe_int)) pa_nil)) (pa_cons pe_int (pa_cons pe_int pa_nil)))))), ?_⟩
  refine ⟨_, rfl, _, rfl, s0, _, rfl, hS, fun l hl => ?_⟩
  have s1 : Same H (upd H l (.lst (cutV (ns.map V.int) none (some 63)))) := same_new hl
  have ec : cutV (ns.map V.int) none (some 63) = ns.map V.int := by
    have := cutV_to (ns.map V.int) 63
    rw [List.take_of_length_le (by rw [List.length_map]; exact hlen)] at this
    exact this
  refine ⟨l, _, rfl, .inl (SqL.of upd_same), fun a ha => ?_⟩
  have s2 := same_new (o := .lst (cutV (ns.map V.int) none (some 63))) ha
  refine ⟨(by show 3 ≤ sizeLine; decide), fun p hp => ?_⟩
  have s3 := same_new (o := .lst [.ref a, .int 0, .int 0]) hp
  have hap : a ≠ p := fun e => by
    rw [← e, upd_same] at hp
    cases hp
  refine k p a _ (s1.trans (s2.trans s3)) ((s1.trans s2).free hp) (s1.free ha) ⟨ns, 0, 0, upd_same, ?_, hlen, by omega, by omega⟩
  rw [upd_ne hap, upd_same, ec]
end
end Lz

set_option Elab.async false
set_option linter.all false
set_option autoImplicit false
set_option maxRecDepth 100000
set_option maxHeartbeats 4000000
/-! Closed parts, mixed, of two functions that are told ahead. Plain Lean. -/
namespace Lz
open PySem PySem.Spec PyProof.Rows L2
def F2 : List Str := ["of", "on"]
def fs2 : List Fn := [(("of" : Str), ["a", "b"], .op "pair" [.nam "b", .nam "a"]), (("on" : Str), [], .fn "on")]
/-- a closed part within bounds -/
structure Mb (M D : Nat) (t : P) : Prop where
  ok : t.ok
  many : t.many ≤ M
  deep : t.deep ≤ D
  fit : ∀ sc, t.fit F2 sc
section
variable {M D : Nat}
theorem Mb.mono {M' D' : Nat} {t : P} (h : Mb M D t) (h1 : M ≤ M') (h2 : D ≤ D') : Mb M' D' t := ⟨h.ok, Nat.le_trans h.many h1, Nat.le_trans h.deep h2, h.fit⟩
theorem Mb.num {i : Int} (h : i.natAbs < 10 ^ 60) : Mb 1 1 (.num i) := ⟨True.intro, Nat.le_refl _, Nat.le_refl _, fun _ => h⟩
theorem nm_of : nmOk ("of" : Str) := by unfold nmOk; decide +kernel
theorem nm_on : nmOk ("on" : Str) := by unfold nmOk; decide +kernel
theorem nm_a : nmOk ("a" : Str) := by unfold nmOk; decide +kernel
theorem nm_b : nmOk ("b" : Str) := by unfold nmOk; decide +kernel
theorem Mb.fnOf : Mb 1 1 (.fn "of") := ⟨nm_of, Nat.le_refl _, Nat.le_refl _, fun _ => List.mem_cons_self⟩
theorem Mb.fnOn : Mb 1 1 (.fn "on") := ⟨nm_on, Nat.le_refl _, Nat.le_refl _, fun _ => List.mem_cons_of_mem _ List.mem_cons_self⟩
theorem Mb.op1 {k : Str} {a : P} {M1 : Nat} (hk : (k, 1) ∈ kinds) (h1 : Mb M1 D a) : Mb (M1 + 1) (D + 1) (.op k [a]) where
  ok := ⟨hk, h1.ok, True.intro⟩
  many := by
    have e : (P.op k [a]).many = 1 + (a.many + 0) := rfl
    have := h1.many
    omega
  deep := by
    have e : (P.op k [a]).deep = 1 + max a.deep 0 := rfl
    have := h1.deep
    omega
  fit := fun sc => ⟨h1.fit sc, True.intro⟩
theorem Mb.op2 {k : Str} {a b : P} {M1 M2 D2 : Nat} (hk : (k, 2) ∈ kinds) (h1 : Mb M1 D a) (h2 : Mb M2 D2 b) : Mb (M1 + M2 + 1) (max D D2 + 1) (.op k [a, b]) where
  ok := ⟨hk, h1.ok, h2.ok, True.intro⟩
  many := by
    have e : (P.op k [a, b]).many = 1 + (a.many + (b.many + 0)) := rfl
    have := h1.many
    have := h2.many
    omega
  deep := by
    have e : (P.op k [a, b]).deep = 1 + max a.deep (max b.deep 0) := rfl
    have := h1.deep
    have := h2.deep
    omega
  fit := fun sc => ⟨h1.fit sc, h2.fit sc, True.intro⟩
theorem Mb.op3 {k : Str} {a b c : P} {M1 M2 M3 D2 D3 : Nat} (hk : (k, 3) ∈ kinds) (h1 : Mb M1 D a) (h2 : Mb M2 D2 b) (h3 : Mb M3 D3 c) : Mb (M1 + M2 + M3 + 1) (max D (max D2 D3) + 1) (.op k [a, b, c]) where
  ok := ⟨hk, h1.ok, h2.ok, h3.ok, True.intro⟩
  many := by
    have e : (P.op k [a, b, c]).many = 1 + (a.many + (b.many + (c.many + 0))) := rfl
    have := h1.many
    have := h2.many
    have := h3.many
    omega
  deep := by
    have e : (P.op k [a, b, c]).deep = 1 + max a.deep (max b.deep (max c.deep 0)) := rfl
    have := h1.deep
    have := h2.deep
    have := h3.deep
    omega
  fit := fun sc => ⟨h1.fit sc, h2.fit sc, h3.fit sc, True.intro⟩
theorem Mb.lett {x : Str} {a b : P} {M1 M2 D2 : Nat} (hx : nmOk x) (h1 : Mb M1 D a) (h2 : Mb M2 D2 b) : Mb (M1 + M2 + 3) (max D (D2 + 1) + 1) (.lt [x] [a] (.op "plus" [.nam x, b])) where
  ok := ⟨rfl, fun y m => by rw [List.mem_singleton.mp m]; exact hx, ⟨h1.ok, True.intro⟩, ⟨(show (("plus" : Str), 2) ∈ kinds by decide +kernel), hx, h2.ok, True.intro⟩⟩
  many := by
    have e : (P.lt [x] [a] (.op "plus" [.nam x, b])).many = 1 + ((a.many + 0) + (1 + (1 + (b.many + 0)))) := rfl
    have := h1.many
    have := h2.many
    omega
  deep := by
    have e : (P.lt [x] [a] (.op "plus" [.nam x, b])).deep = 1 + max (max a.deep 0) (1 + max 1 (max b.deep 0)) := rfl
    have := h1.deep
    have := h2.deep
    have := deep_pos b
    omega
  fit := fun sc => ⟨Nat.le_refl _, by show 1 ≤ 4; decide, ⟨h1.fit _, True.intro⟩, List.mem_append_right _ List.mem_cons_self, h2.fit _, True.intro⟩
end
theorem fits2 {t : P} (h : Mb 60 12 t) (hr : t.rown.Nodup) : Fits fs2 t := by
  have key : ∀ g, g ∈ fnsOf fs2 t → g = ((("of" : Str), (["a", "b"] : List Str), P.op "pair" [.nam "b", .nam "a"]) : Fn) ∨ g = ((("on" : Str), ([] : List Str), P.fn "on") : Fn) ∨ g = askedFn t := fun g m => by
    rcases List.mem_append.mp m with m | m
    · rcases List.mem_cons.mp m with e | m
      · exact .inl e
      · exact .inr (.inl (List.mem_singleton.mp m))
    · exact .inr (.inr (List.mem_singleton.mp m))
  refine ⟨by show 2 ≤ 8; decide, fun g m => ?_, by show (["of", "on"] : List Str).Nodup; decide +kernel, fun g m => ?_, fun g m => ?_, fun g m => ?_, fun g m => ?_⟩
  · rcases key g (List.mem_append_left _ m) with e | e | e
    · rw [e]
      refine ⟨nm_of, fun y m => ?_⟩
      rcases List.mem_cons.mp m with e | m
      · rw [e]; exact nm_a
      · rw [List.mem_singleton.mp m]; exact nm_b
    · rw [e]
      exact ⟨nm_on, fun y m => nomatch m⟩
    · rcases List.mem_cons.mp m with e2 | m
      · rw [e2]
        refine ⟨nm_of, fun y m => ?_⟩
        rcases List.mem_cons.mp m with e | m
        · rw [e]; exact nm_a
        · rw [List.mem_singleton.mp m]; exact nm_b
      · rw [List.mem_singleton.mp m]
        exact ⟨nm_on, fun y m => nomatch m⟩
  · rcases key g m with e | e | e <;> rw [e]
    · show 2 ≤ 4; decide
    · show 0 ≤ 4; decide
    · show 0 ≤ 4; decide
  · rcases key g m with e | e | e <;> rw [e]
    · exact ⟨⟨by decide +kernel, nm_b, nm_a, True.intro⟩, by show 3 ≤ 60; decide, by show 2 ≤ 12; decide⟩
    · exact ⟨nm_on, by show 1 ≤ 60; decide, by show 1 ≤ 12; decide⟩
    · exact ⟨h.ok, h.many, h.deep⟩
  · rcases key g m with e | e | e <;> rw [e]
    · exact ⟨List.mem_cons_of_mem _ List.mem_cons_self, List.mem_cons_self, True.intro⟩
    · exact List.mem_cons_of_mem _ List.mem_cons_self
    · exact h.fit _
  · rcases key g m with e | e | e <;> rw [e]
    · show (["a", "b"] : List Str).Nodup; decide +kernel
    · exact List.nodup_nil
    · exact hr
/-- names of rows, out of a stock -/
structure Rn (stk stk' : List Str) (t : P) : Prop where
  nd : t.rown.Nodup
  mem : ∀ x, x ∈ t.rown → x ∈ stk ∧ ¬ x ∈ stk'
  pre : ∃ X, stk = stk' ++ X
theorem Rn.of_nil {stk : List Str} {t : P} (h : t.rown = []) : Rn stk stk t := ⟨by rw [h]; exact List.nodup_nil, fun x m => (by rw [h] at m; cases m), ⟨[], (List.append_nil _).symm⟩⟩
theorem Rn.sub {stk stk' : List Str} {t : P} (h : Rn stk stk' t) {x : Str} (m : x ∈ stk') : x ∈ stk := by
  obtain ⟨X, e⟩ := h.pre
  rw [e]
  exact List.mem_append_left _ m
theorem Rn.op1 {s s1 : List Str} {k : Str} {a : P} (h : Rn s s1 a) : Rn s s1 (.op k [a]) := by
  have e : (P.op k [a]).rown = a.rown := by show a.rown ++ [] = _; rw [List.append_nil]
  exact ⟨by rw [e]; exact h.nd, by rw [e]; exact h.mem, h.pre⟩
theorem Rn.two {s s1 s2 : List Str} {a b : P} (h1 : Rn s s1 a) (h2 : Rn s1 s2 b) : (a.rown ++ b.rown).Nodup ∧ (∀ x, x ∈ a.rown ++ b.rown → x ∈ s ∧ ¬ x ∈ s2) ∧ ∃ X, s = s2 ++ X := by
  refine ⟨?_, fun x m => ?_, ?_⟩
  · rw [List.nodup_append]
    refine ⟨h1.nd, h2.nd, fun x hx y hy e => ?_⟩
    rw [e] at hx
    exact (h1.mem _ hx).2 (h2.mem _ hy).1
  · rcases List.mem_append.mp m with m | m
    · exact ⟨(h1.mem x m).1, fun q => (h1.mem x m).2 (h2.sub q)⟩
    · exact ⟨h1.sub (h2.mem x m).1, (h2.mem x m).2⟩
  · obtain ⟨X, e1⟩ := h1.pre
    obtain ⟨Y, e2⟩ := h2.pre
    exact ⟨Y ++ X, by rw [e1, e2, List.append_assoc]⟩
theorem Rn.op2 {s s1 s2 : List Str} {k : Str} {a b : P} (h1 : Rn s s1 a) (h2 : Rn s1 s2 b) : Rn s s2 (.op k [a, b]) := by
  have e : (P.op k [a, b]).rown = a.rown ++ b.rown := by show a.rown ++ (b.rown ++ []) = _; rw [List.append_nil]
  obtain ⟨q1, q2, q3⟩ := h1.two h2
  exact ⟨by rw [e]; exact q1, by rw [e]; exact q2, q3⟩
theorem Rn.op3 {s s1 s2 : List Str} {k : Str} {a b c : P} (h1 : Rn s s1 a) (h2 : Rn s1 s2 b) (h3 : c.rown = []) : Rn s s2 (.op k [a, b, c]) := by
  have e : (P.op k [a, b, c]).rown = a.rown ++ b.rown := by show a.rown ++ (b.rown ++ (c.rown ++ [])) = _; rw [h3, List.append_nil, List.append_nil]
  obtain ⟨q1, q2, q3⟩ := h1.two h2
  exact ⟨by rw [e]; exact q1, by rw [e]; exact q2, q3⟩
theorem Rn.lett {s s1 s2 : List Str} {x : Str} {a b : P} (hs : s.Nodup) (h1 : Rn s s1 a) (h2 : Rn s1 (s2 ++ [x]) b) : Rn s s2 (.lt [x] [a] (.op "plus" [.nam x, b])) := by
  have e : (P.lt [x] [a] (.op "plus" [.nam x, b])).rown = x :: (a.rown ++ b.rown) := by
    show [x] ++ ((a.rown ++ []) ++ ([] ++ (b.rown ++ []))) = _
    rw [List.append_nil, List.append_nil]
    rfl
  obtain ⟨q1, q2, X, q3⟩ := h1.two h2
  have hx : x ∈ s := by rw [q3]; exact List.mem_append_left _ (List.mem_append_right _ List.mem_cons_self)
  have hn : ¬ x ∈ s2 := fun m => by
    rw [q3, List.append_assoc] at hs
    exact (List.nodup_append.mp hs).2.2 x m x (List.mem_append_left _ List.mem_cons_self) rfl
  refine ⟨?_, fun y m => ?_, ⟨[x] ++ X, by rw [q3, List.append_assoc]⟩⟩
  · rw [e, List.nodup_cons]
    exact ⟨fun m => (q2 x m).2 (List.mem_append_right _ List.mem_cons_self), q1⟩
  · rw [e] at m
    rcases List.mem_cons.mp m with rfl | m
    · exact ⟨hx, hn⟩
    · exact ⟨(q2 y m).1, fun q => (q2 y m).2 (List.mem_append_left _ q)⟩
def needM : Nat → Nat
  | 0 => 0
  | m + 1 => 2 * needM m + 1
def manyM : Nat → Nat
  | 0 => 8
  | m + 1 => 2 * manyM m + 9
end Lz

set_option Elab.async false
set_option linter.all false
set_option maxRecDepth 100000
set_option maxHeartbeats 8000000
namespace Lz
open PySem PySem.Spec PyProof.Rows L2
def spEnd (K : PySem.W.Frag) : Sp := fun vs H Q _ => ∃ (p a : Addr), vs = [.ref p] ∧ PenAt H p a ∧ ∀ (v : V) (t : Lz.P) (H' : Hp), Kp [p] H H' → PenAt H' p a → Dp K H' v t.data → Mb 8 4 t → t.rown = [] → Q v H'
theorem smallMb {i : Int} (h0 : 0 ≤ i) (h : i ≤ 100) : i.natAbs < 10 ^ 60 := by
  have h60 : (101 : Nat) ≤ 10 ^ 60 := by decide +kernel
  generalize (10 : Nat) ^ 60 = z at h60 ⊢
  omega
theorem big60 {g : Int} (h0 : 0 ≤ g) (h : g ≤ 9) : ((10 : Int) ^ (60 : Int).toNat - 1 - g).natAbs < 10 ^ 60 := by
  have e : (10 : Int) ^ (60 : Int).toNat = ((10 ^ 60 : Nat) : Int) := by decide +kernel
  have h60 : (101 : Nat) ≤ 10 ^ 60 := by decide +kernel
  rw [e]
  generalize (10 : Nat) ^ 60 = z at h60 ⊢
  omega
section
variable {P : Program} {w : World} {K : PySem.W.Frag} {mg : Str → Option Value} {base : Heap} {f : Addr} {fd : FuncData}
abbrev sLEnd : Stmt := topS 43
theorem scLEnd : FnScope ["_law_pen_here", "_law_one", "_law_pair", "_law_great", "_law_some"] ["_law_pen_here"] (defScope sLEnd) := ⟨rfl, rfl, rfl, by decide +kernel, rfl, by decide +kernel, by decide +kernel⟩
theorem ok_end (F : Fun K "_law_end" "_law_end" sLEnd f fd) (B : Bt mg) (CLDraw : C8.Cal P w K mg base 1 "_law_draw" (spDraw K) []) : FnOk P w K mg base CX0 2 f fd ["_law_pen_here"] (spEnd K) := by
  have ml := B.len
  refine F.ok scLEnd (fun vs H Q E h => ?_) (fun cdv A outer s H vs Q E hr h => ?_)
  · obtain ⟨p, a, rfl, _⟩ := h
    rfl
  obtain ⟨p, a, rfl, pen1, q⟩ := h
  have k1 : Kp [p] H H := Kp.refl _ _
  refine ⟨_, (pss_cons (ps_par (i := 1) (j := 2) rfl scLEnd.nd rfl rfl (by decide) rfl rfl (pa_cons (pe_tup (pa_cons pe_str (pa_cons (C8.pe_c CLDraw hr (by first | decide | omega) (by rfl) (pa_cons (pv 0) (pa_cons pe_int pa_nil))) pa_nil))) (pa_cons (pe_tup (pa_cons pe_str (pa_cons (pe_tup (pa_cons pe_str (pa_cons pe_int pa_nil))) (pa_cons (pe_tup (pa_cons pe_str (pa_cons (pe_tup (pa_cons pe_str (pa_cons pe_int pa_nil))) pa_nil))) pa_nil)))) pa_nil)) (by rfl))
    (pss_cons (ps_set (i := 3) scLEnd.nd rfl (.inl rfl) (pe_tup (pa_cons pe_str (pa_cons (pe_op op_sub (pe_op op_sub (pe_op op_pow pe_int pe_int) pe_int) (C8.pe_c CLDraw hr (by first | decide | omega) (by rfl) (pa_cons (pv 0) (pa_cons pe_int pa_nil)))) pa_nil))))
    (pss_cons (ps_set (i := 4) scLEnd.nd rfl (.inl rfl) (pe_lst (pa_cons (pv 1) (pa_cons (pv 2) (pa_cons (pe_tup (pa_cons pe_str (pa_cons pe_str pa_nil))) (pa_cons (pe_tup (pa_cons pe_str (pa_cons (pe_tup (pa_cons pe_str (pa_cons pe_str pa_nil))) (pa_cons (pv 2) pa_nil)))) (pa_cons (pe_tup (pa_cons pe_str (pa_cons pe_str pa_nil))) (pa_cons (pv 3) (pa_cons (pe_tup (pa_cons pe_str (pa_cons (pe_op op_pow pe_int pe_int) pa_nil))) pa_nil)))))))))
    (pss_cons (ps_set (i := 4) scLEnd.nd rfl (.inl rfl) (pe_op op_cat (pv 4) (pe_lst (pa_cons (pe_tup (pa_cons pe_str (pa_cons (pv 1) pa_nil))) (pa_cons (pe_tup (pa_cons pe_str (pa_cons (pv 1) (pa_cons (pv 2) pa_nil)))) (pa_cons (pe_tup (pa_cons pe_str (pa_cons (pv 2) (pa_cons (pv 1) pa_nil)))) (pa_cons (pe_tup (pa_cons pe_str (pa_cons (pv 3) (pa_cons (pv 3) pa_nil)))) pa_nil)))))))
    (pss_cons (ps_set (i := 4) scLEnd.nd rfl (.inl rfl) (pe_op op_cat (pv 4) (pe_lst (pa_cons (pe_tup (pa_cons pe_str (pa_cons (pe_tup (pa_cons pe_str (pa_cons (pe_tup (pa_cons pe_str (pa_cons pe_str pa_nil))) (pa_cons (pv 1) pa_nil)))) (pa_cons (pv 2) pa_nil)))) (pa_cons (pe_tup (pa_cons pe_str (pa_cons (pe_tup (pa_cons pe_str (pa_cons (pe_op op_pow pe_int pe_int) pa_nil))) (pa_cons (pe_tup (pa_cons pe_str (pa_cons (pe_op op_pow pe_int pe_int) pa_nil))) pa_nil)))) pa_nil)))))
    (pss_cons (ps_set (i := 4) scLEnd.nd rfl (.inl rfl) (pe_op op_cat (pv 4) (pe_lst (pa_cons (pe_tup (pa_cons pe_str (pa_cons (pv 2) (pa_cons (pv 1) (pa_cons (pv 1) pa_nil))))) (pa_cons (pe_tup (pa_cons pe_str (pa_cons (pv 1) (pa_cons (pv 3) pa_nil)))) (pa_cons (pe_tup (pa_cons pe_str (pa_cons (pv 2) pa_nil))) (pa_cons (pe_tup (pa_cons pe_str (pa_cons (pv 2) pa_nil))) pa_nil)))))))
    (pss_cons (ps_set (i := 4) scLEnd.nd rfl (.inl rfl) (pe_op op_cat (pv 4) (pe_lst (pa_cons (pe_tup (pa_cons pe_str (pa_cons (pv 1) (pa_cons (pv 3) pa_nil)))) (pa_cons (pe_tup (pa_cons pe_str (pa_cons (pv 1) (pa_cons (pv 2) pa_nil)))) pa_nil)))))
    (pss_one (ps_ret (pe_ix (ix_listK (K := K) rfl) (pv 4) (C8.pe_c CLDraw hr (by first | decide | omega) (by rfl) (pa_cons (pv 0) (pa_cons (pe_callB (call_lenK (K := K) rfl) (by rfl) ml PySem.boot_len (pa_cons (pv 4) pa_nil)) pa_nil))) (fun _ _ => rfl))))))))))), ?_⟩
  obtain ⟨H1, eH1⟩ : ∃ H1, H1 = H := ⟨_, rfl⟩
  rw [← eH1] at pen1 ⊢
  replace k1 : Kp [p] H H1 := by rw [eH1]; exact k1
  clear eH1
  refine ⟨_, rfl, p, a, 3, rfl, pen1, (by decide), (by decide), fun z H2 kk penx z0 z1 => ?_⟩
  replace k1 := k1.trans kk
  clear kk pen1
  have pen1 := penx
  clear penx
  refine ⟨(by show 2 ≤ sizeLine; decide), fun O hO => ?_⟩
  have dO : Dp K (upd H2 O (.tup [.str "number", .int z])) (.ref O) (Lz.P.num z).data := Dp.newT hO (.cons (.str _) (.cons (.int _) .nil)) (by exact data_fz (Lz.P.num z))
  have kk : Kp [p] H2 (upd H2 O (.tup [.str "number", .int z])) := Kp.new hO
  replace pen1 := pen1.new (o := (.tup [.str "number", .int z])) hO
  replace k1 := k1.trans kk
  clear kk
  generalize upd H2 O (.tup [.str "number", .int z]) = H3 at dO pen1 k1 ⊢
  refine ⟨(by show 2 ≤ sizeLine; decide), fun N1 hN1 => ?_⟩
  have dN1 : Dp K (upd H3 N1 (.tup [.str "number", .int 1])) (.ref N1) (Lz.P.num 1).data := Dp.newT hN1 (.cons (.str _) (.cons (.int _) .nil)) (by exact data_fz (Lz.P.num 1))
  have kk : Kp [p] H3 (upd H3 N1 (.tup [.str "number", .int 1])) := Kp.new hN1
  replace dO := Dp.keep kk _ _ (data_fz _) dO
  replace pen1 := pen1.new (o := (.tup [.str "number", .int 1])) hN1
  replace k1 := k1.trans kk
  clear kk
  generalize upd H3 N1 (.tup [.str "number", .int 1]) = H4 at dO dN1 pen1 k1 ⊢
  refine ⟨(by show 2 ≤ sizeLine; decide), fun N2 hN2 => ?_⟩
  have dN2 : Dp K (upd H4 N2 (.tup [.str "number", .int 2])) (.ref N2) (Lz.P.num 2).data := Dp.newT hN2 (.cons (.str _) (.cons (.int _) .nil)) (by exact data_fz (Lz.P.num 2))
  have kk : Kp [p] H4 (upd H4 N2 (.tup [.str "number", .int 2])) := Kp.new hN2
  replace dO := Dp.keep kk _ _ (data_fz _) dO
  replace dN1 := Dp.keep kk _ _ (data_fz _) dN1
  replace pen1 := pen1.new (o := (.tup [.str "number", .int 2])) hN2
  replace k1 := k1.trans kk
  clear kk
  generalize upd H4 N2 (.tup [.str "number", .int 2]) = H5 at dO dN1 dN2 pen1 k1 ⊢
  refine ⟨(by show 2 ≤ sizeLine; decide), fun L2 hL2 => ?_⟩
  have dL2 : Dp K (upd H5 L2 (.tup [.str "left", .ref N2])) (.ref L2) (Lz.P.op "left" [.num 2]).data := Dp.newT hL2 (.cons (.str _) (.cons dN2 .nil)) (by exact data_fz (Lz.P.op "left" [.num 2]))
  have kk : Kp [p] H5 (upd H5 L2 (.tup [.str "left", .ref N2])) := Kp.new hL2
  replace dO := Dp.keep kk _ _ (data_fz _) dO
  replace dN1 := Dp.keep kk _ _ (data_fz _) dN1
  replace dN2 := Dp.keep kk _ _ (data_fz _) dN2
  replace pen1 := pen1.new (o := (.tup [.str "left", .ref N2])) hL2
  replace k1 := k1.trans kk
  clear kk
  generalize upd H5 L2 (.tup [.str "left", .ref N2]) = H6 at dO dN1 dN2 dL2 pen1 k1 ⊢
  refine ⟨(by show 3 ≤ sizeLine; decide), fun Pa hPa => ?_⟩
  have dPa : Dp K (upd H6 Pa (.tup [.str "pair", .ref N1, .ref L2])) (.ref Pa) (Lz.P.op "pair" [.num 1, .op "left" [.num 2]]).data := Dp.newT hPa (.cons (.str _) (.cons dN1 (.cons dL2 .nil))) (by exact data_fz (Lz.P.op "pair" [.num 1, .op "left" [.num 2]]))
  have kk : Kp [p] H6 (upd H6 Pa (.tup [.str "pair", .ref N1, .ref L2])) := Kp.new hPa
  replace dO := Dp.keep kk _ _ (data_fz _) dO
  replace dN1 := Dp.keep kk _ _ (data_fz _) dN1
  replace dN2 := Dp.keep kk _ _ (data_fz _) dN2
  replace dL2 := Dp.keep kk _ _ (data_fz _) dL2
  replace pen1 := pen1.new (o := (.tup [.str "pair", .ref N1, .ref L2])) hPa
  replace k1 := k1.trans kk
  clear kk
  generalize upd H6 Pa (.tup [.str "pair", .ref N1, .ref L2]) = H7 at dO dN1 dN2 dL2 dPa pen1 k1 ⊢
  refine ⟨_, _, rfl, ?_⟩
  refine ⟨_, _, rfl, rfl, ⟨by decide, by decide, by decide⟩, _, _, rfl, rfl, _, rfl, p, a, 2, rfl, pen1, (by decide), (by decide), fun g H8 kk penx g0 g1 => ?_⟩
  replace dO := Dp.keep kk _ _ (data_fz _) dO
  replace dN1 := Dp.keep kk _ _ (data_fz _) dN1
  replace dN2 := Dp.keep kk _ _ (data_fz _) dN2
  replace dL2 := Dp.keep kk _ _ (data_fz _) dL2
  replace dPa := Dp.keep kk _ _ (data_fz _) dPa
  replace k1 := k1.trans kk
  clear kk pen1
  have pen1 := penx
  clear penx
  have hzg : ((10 : Int) ^ (60 : Int).toNat - 1 - g).natAbs < 10 ^ 60 := big60 g0 (by omega)
  clear dN1 dN2 dL2
  refine ⟨_, _, rfl, rfl, (by show 2 ≤ sizeLine; decide), fun G hG => ?_⟩
  have dG : Dp K (upd H8 G (.tup [.str "number", .int (10 ^ (60 : Int).toNat - 1 - g)])) (.ref G) (Lz.P.num (10 ^ (60 : Int).toNat - 1 - g)).data := Dp.newT hG (.cons (.str _) (.cons (.int _) .nil)) (by exact data_fz (Lz.P.num (10 ^ (60 : Int).toNat - 1 - g)))
  have kk : Kp [p] H8 (upd H8 G (.tup [.str "number", .int (10 ^ (60 : Int).toNat - 1 - g)])) := Kp.new hG
  replace dO := Dp.keep kk _ _ (data_fz _) dO
  replace dPa := Dp.keep kk _ _ (data_fz _) dPa
  replace pen1 := pen1.new (o := (.tup [.str "number", .int (10 ^ (60 : Int).toNat - 1 - g)])) hG
  replace k1 := k1.trans kk
  clear kk
  generalize upd H8 G (.tup [.str "number", .int (10 ^ (60 : Int).toNat - 1 - g)]) = H9 at dO dPa dG pen1 k1 ⊢
  obtain ⟨zg, ezg⟩ : ∃ zg : Int, zg = 10 ^ (60 : Int).toNat - 1 - g := ⟨_, rfl⟩
  rw [← ezg] at dG hzg
  clear ezg
  refine ⟨_, rfl, _, rfl, (by show 2 ≤ sizeLine; decide), fun Fo hFo => ?_⟩
  have dFo : Dp K (upd H9 Fo (.tup [.str "fun", .str "of"])) (.ref Fo) (Lz.P.fn "of").data := Dp.newT hFo (.cons (.str _) (.cons (.str _) .nil)) (by exact data_fz (Lz.P.fn "of"))
  have kk : Kp [p] H9 (upd H9 Fo (.tup [.str "fun", .str "of"])) := Kp.new hFo
  replace dO := Dp.keep kk _ _ (data_fz _) dO
  replace dPa := Dp.keep kk _ _ (data_fz _) dPa
  replace dG := Dp.keep kk _ _ (data_fz _) dG
  replace pen1 := pen1.new (o := (.tup [.str "fun", .str "of"])) hFo
  replace k1 := k1.trans kk
  clear kk
  generalize upd H9 Fo (.tup [.str "fun", .str "of"]) = H10 at dO dPa dG dFo pen1 k1 ⊢
  refine ⟨(by show 2 ≤ sizeLine; decide), fun Fo2 hFo2 => ?_⟩
  have dFo2 : Dp K (upd H10 Fo2 (.tup [.str "fun", .str "of"])) (.ref Fo2) (Lz.P.fn "of").data := Dp.newT hFo2 (.cons (.str _) (.cons (.str _) .nil)) (by exact data_fz (Lz.P.fn "of"))
  have kk : Kp [p] H10 (upd H10 Fo2 (.tup [.str "fun", .str "of"])) := Kp.new hFo2
  replace dO := Dp.keep kk _ _ (data_fz _) dO
  replace dPa := Dp.keep kk _ _ (data_fz _) dPa
  replace dG := Dp.keep kk _ _ (data_fz _) dG
  replace dFo := Dp.keep kk _ _ (data_fz _) dFo
  replace pen1 := pen1.new (o := (.tup [.str "fun", .str "of"])) hFo2
  replace k1 := k1.trans kk
  clear kk
  generalize upd H10 Fo2 (.tup [.str "fun", .str "of"]) = H11 at dO dPa dG dFo dFo2 pen1 k1 ⊢
  refine ⟨_, rfl, (by show 3 ≤ sizeLine; decide), fun Gi hGi => ?_⟩
  have dGi : Dp K (upd H11 Gi (.tup [.str "give", .ref Fo2, .ref Pa])) (.ref Gi) (Lz.P.op "give" [.fn "of", .op "pair" [.num 1, .op "left" [.num 2]]]).data := Dp.newT hGi (.cons (.str _) (.cons dFo2 (.cons dPa .nil))) (by exact data_fz (Lz.P.op "give" [.fn "of", .op "pair" [.num 1, .op "left" [.num 2]]]))
  have kk : Kp [p] H11 (upd H11 Gi (.tup [.str "give", .ref Fo2, .ref Pa])) := Kp.new hGi
  replace dO := Dp.keep kk _ _ (data_fz _) dO
  replace dPa := Dp.keep kk _ _ (data_fz _) dPa
  replace dG := Dp.keep kk _ _ (data_fz _) dG
  replace dFo := Dp.keep kk _ _ (data_fz _) dFo
  replace dFo2 := Dp.keep kk _ _ (data_fz _) dFo2
  replace pen1 := pen1.new (o := (.tup [.str "give", .ref Fo2, .ref Pa])) hGi
  replace k1 := k1.trans kk
  clear kk
  generalize upd H11 Gi (.tup [.str "give", .ref Fo2, .ref Pa]) = H12 at dO dPa dG dFo dFo2 dGi pen1 k1 ⊢
  refine ⟨(by show 2 ≤ sizeLine; decide), fun Fn hFn => ?_⟩
  have dFn : Dp K (upd H12 Fn (.tup [.str "fun", .str "on"])) (.ref Fn) (Lz.P.fn "on").data := Dp.newT hFn (.cons (.str _) (.cons (.str _) .nil)) (by exact data_fz (Lz.P.fn "on"))
  have kk : Kp [p] H12 (upd H12 Fn (.tup [.str "fun", .str "on"])) := Kp.new hFn
  replace dO := Dp.keep kk _ _ (data_fz _) dO
  replace dPa := Dp.keep kk _ _ (data_fz _) dPa
  replace dG := Dp.keep kk _ _ (data_fz _) dG
  replace dFo := Dp.keep kk _ _ (data_fz _) dFo
  replace dFo2 := Dp.keep kk _ _ (data_fz _) dFo2
  replace dGi := Dp.keep kk _ _ (data_fz _) dGi
  replace pen1 := pen1.new (o := (.tup [.str "fun", .str "on"])) hFn
  replace k1 := k1.trans kk
  clear kk
  generalize upd H12 Fn (.tup [.str "fun", .str "on"]) = H13 at dO dPa dG dFo dFo2 dGi dFn pen1 k1 ⊢
  refine ⟨_, rfl, _, _, rfl, rfl, ⟨by decide, by decide, by decide⟩, (by show 2 ≤ sizeLine; decide), fun Nb hNb => ?_⟩
  have dNb : Dp K (upd H13 Nb (.tup [.str "number", .int (10 ^ (30 : Int).toNat)])) (.ref Nb) (Lz.P.num (10 ^ (30 : Int).toNat)).data := Dp.newT hNb (.cons (.str _) (.cons (.int _) .nil)) (by exact data_fz (Lz.P.num (10 ^ (30 : Int).toNat)))
  have kk : Kp [p] H13 (upd H13 Nb (.tup [.str "number", .int (10 ^ (30 : Int).toNat)])) := Kp.new hNb
  replace dO := Dp.keep kk _ _ (data_fz _) dO
  replace dPa := Dp.keep kk _ _ (data_fz _) dPa
  replace dG := Dp.keep kk _ _ (data_fz _) dG
  replace dFo := Dp.keep kk _ _ (data_fz _) dFo
  replace dFo2 := Dp.keep kk _ _ (data_fz _) dFo2
  replace dGi := Dp.keep kk _ _ (data_fz _) dGi
  replace dFn := Dp.keep kk _ _ (data_fz _) dFn
  replace pen1 := pen1.new (o := (.tup [.str "number", .int (10 ^ (30 : Int).toNat)])) hNb
  replace k1 := k1.trans kk
  clear kk
  generalize upd H13 Nb (.tup [.str "number", .int (10 ^ (30 : Int).toNat)]) = H14 at dO dPa dG dFo dFo2 dGi dFn dNb pen1 k1 ⊢
  obtain ⟨zb, ezb⟩ : ∃ zb : Int, zb = 10 ^ (30 : Int).toNat := ⟨_, rfl⟩
  have hzb : zb.natAbs < 10 ^ 60 := by rw [ezb]; decide +kernel
  rw [← ezb] at dNb
  refine ⟨(by show 7 ≤ sizeLine; decide), fun A1 hA1 => ?_⟩
  have dA1 : (upd H14 A1 (.lst [.ref O, .ref Pa, .ref Fo, .ref Gi, .ref Fn, .ref G, .ref Nb])) A1 = some (.lst [.ref O, .ref Pa, .ref Fo, .ref Gi, .ref Fn, .ref G, .ref Nb]) := upd_same
  have nA1 := (pen1.apart hA1).1
  have kk : Kp [p] H14 (upd H14 A1 (.lst [.ref O, .ref Pa, .ref Fo, .ref Gi, .ref Fn, .ref G, .ref Nb])) := Kp.new hA1
  replace dO := Dp.keep kk _ _ (data_fz _) dO
  replace dPa := Dp.keep kk _ _ (data_fz _) dPa
  replace dG := Dp.keep kk _ _ (data_fz _) dG
  replace dFo := Dp.keep kk _ _ (data_fz _) dFo
  replace dFo2 := Dp.keep kk _ _ (data_fz _) dFo2
  replace dGi := Dp.keep kk _ _ (data_fz _) dGi
  replace dFn := Dp.keep kk _ _ (data_fz _) dFn
  replace dNb := Dp.keep kk _ _ (data_fz _) dNb
  replace pen1 := pen1.new (o := (.lst [.ref O, .ref Pa, .ref Fo, .ref Gi, .ref Fn, .ref G, .ref Nb])) hA1
  replace k1 := k1.trans kk
  clear kk
  generalize upd H14 A1 (.lst [.ref O, .ref Pa, .ref Fo, .ref Gi, .ref Fn, .ref G, .ref Nb]) = H15 at dA1 dO dPa dG dFo dFo2 dGi dFn dNb pen1 k1 ⊢
  refine ⟨_, rfl, ?_⟩
  refine ⟨_, rfl, (by show 2 ≤ sizeLine; decide), fun C1 hC1 => ?_⟩
  have dC1 : Dp K (upd H15 C1 (.tup [.str "left", .ref O])) (.ref C1) (Lz.P.op "left" [.num z]).data := Dp.newT hC1 (.cons (.str _) (.cons dO .nil)) (by exact data_fz (Lz.P.op "left" [.num z]))
  have kk : Kp [p] H15 (upd H15 C1 (.tup [.str "left", .ref O])) := Kp.new hC1
  replace dO := Dp.keep kk _ _ (data_fz _) dO
  replace dPa := Dp.keep kk _ _ (data_fz _) dPa
  replace dG := Dp.keep kk _ _ (data_fz _) dG
  replace dFo := Dp.keep kk _ _ (data_fz _) dFo
  replace dFo2 := Dp.keep kk _ _ (data_fz _) dFo2
  replace dGi := Dp.keep kk _ _ (data_fz _) dGi
  replace dFn := Dp.keep kk _ _ (data_fz _) dFn
  replace dNb := Dp.keep kk _ _ (data_fz _) dNb
  replace dA1 := kk.lst dA1 (not1 nA1)
  replace pen1 := pen1.new (o := (.tup [.str "left", .ref O])) hC1
  replace k1 := k1.trans kk
  clear kk
  generalize upd H15 C1 (.tup [.str "left", .ref O]) = H16 at dO dPa dG dFo dFo2 dGi dFn dNb dC1 dA1 pen1 k1 ⊢
  refine ⟨_, rfl, _, rfl, (by show 3 ≤ sizeLine; decide), fun C2 hC2 => ?_⟩
  have dC2 : Dp K (upd H16 C2 (.tup [.str "give", .ref O, .ref Pa])) (.ref C2) (Lz.P.op "give" [.num z, .op "pair" [.num 1, .op "left" [.num 2]]]).data := Dp.newT hC2 (.cons (.str _) (.cons dO (.cons dPa .nil))) (by exact data_fz (Lz.P.op "give" [.num z, .op "pair" [.num 1, .op "left" [.num 2]]]))
  have kk : Kp [p] H16 (upd H16 C2 (.tup [.str "give", .ref O, .ref Pa])) := Kp.new hC2
  replace dO := Dp.keep kk _ _ (data_fz _) dO
  replace dPa := Dp.keep kk _ _ (data_fz _) dPa
  replace dG := Dp.keep kk _ _ (data_fz _) dG
  replace dFo := Dp.keep kk _ _ (data_fz _) dFo
  replace dFo2 := Dp.keep kk _ _ (data_fz _) dFo2
  replace dGi := Dp.keep kk _ _ (data_fz _) dGi
  replace dFn := Dp.keep kk _ _ (data_fz _) dFn
  replace dNb := Dp.keep kk _ _ (data_fz _) dNb
  replace dC1 := Dp.keep kk _ _ (data_fz _) dC1
  replace dA1 := kk.lst dA1 (not1 nA1)
  replace pen1 := pen1.new (o := (.tup [.str "give", .ref O, .ref Pa])) hC2
  replace k1 := k1.trans kk
  clear kk
  generalize upd H16 C2 (.tup [.str "give", .ref O, .ref Pa]) = H17 at dO dPa dG dFo dFo2 dGi dFn dNb dC1 dC2 dA1 pen1 k1 ⊢
  refine ⟨_, rfl, _, rfl, (by show 3 ≤ sizeLine; decide), fun C3 hC3 => ?_⟩
  have dC3 : Dp K (upd H17 C3 (.tup [.str "plus", .ref Pa, .ref O])) (.ref C3) (Lz.P.op "plus" [.op "pair" [.num 1, .op "left" [.num 2]], .num z]).data := Dp.newT hC3 (.cons (.str _) (.cons dPa (.cons dO .nil))) (by exact data_fz (Lz.P.op "plus" [.op "pair" [.num 1, .op "left" [.num 2]], .num z]))
  have kk : Kp [p] H17 (upd H17 C3 (.tup [.str "plus", .ref Pa, .ref O])) := Kp.new hC3
  replace dO := Dp.keep kk _ _ (data_fz _) dO
  replace dPa := Dp.keep kk _ _ (data_fz _) dPa
  replace dG := Dp.keep kk _ _ (data_fz _) dG
  replace dFo := Dp.keep kk _ _ (data_fz _) dFo
  replace dFo2 := Dp.keep kk _ _ (data_fz _) dFo2
  replace dGi := Dp.keep kk _ _ (data_fz _) dGi
  replace dFn := Dp.keep kk _ _ (data_fz _) dFn
  replace dNb := Dp.keep kk _ _ (data_fz _) dNb
  replace dC1 := Dp.keep kk _ _ (data_fz _) dC1
  replace dC2 := Dp.keep kk _ _ (data_fz _) dC2
  replace dA1 := kk.lst dA1 (not1 nA1)
  replace pen1 := pen1.new (o := (.tup [.str "plus", .ref Pa, .ref O])) hC3
  replace k1 := k1.trans kk
  clear kk
  generalize upd H17 C3 (.tup [.str "plus", .ref Pa, .ref O]) = H18 at dO dPa dG dFo dFo2 dGi dFn dNb dC1 dC2 dC3 dA1 pen1 k1 ⊢
  refine ⟨_, rfl, _, rfl, (by show 3 ≤ sizeLine; decide), fun C4 hC4 => ?_⟩
  have dC4 : Dp K (upd H18 C4 (.tup [.str "plus", .ref G, .ref G])) (.ref C4) (Lz.P.op "plus" [.num zg, .num zg]).data := Dp.newT hC4 (.cons (.str _) (.cons dG (.cons dG .nil))) (by exact data_fz (Lz.P.op "plus" [.num zg, .num zg]))
  have kk : Kp [p] H18 (upd H18 C4 (.tup [.str "plus", .ref G, .ref G])) := Kp.new hC4
  replace dO := Dp.keep kk _ _ (data_fz _) dO
  replace dPa := Dp.keep kk _ _ (data_fz _) dPa
  replace dG := Dp.keep kk _ _ (data_fz _) dG
  replace dFo := Dp.keep kk _ _ (data_fz _) dFo
  replace dFo2 := Dp.keep kk _ _ (data_fz _) dFo2
  replace dGi := Dp.keep kk _ _ (data_fz _) dGi
  replace dFn := Dp.keep kk _ _ (data_fz _) dFn
  replace dNb := Dp.keep kk _ _ (data_fz _) dNb
  replace dC1 := Dp.keep kk _ _ (data_fz _) dC1
  replace dC2 := Dp.keep kk _ _ (data_fz _) dC2
  replace dC3 := Dp.keep kk _ _ (data_fz _) dC3
  replace dA1 := kk.lst dA1 (not1 nA1)
  replace pen1 := pen1.new (o := (.tup [.str "plus", .ref G, .ref G])) hC4
  replace k1 := k1.trans kk
  clear kk
  generalize upd H18 C4 (.tup [.str "plus", .ref G, .ref G]) = H19 at dO dPa dG dFo dFo2 dGi dFn dNb dC1 dC2 dC3 dC4 dA1 pen1 k1 ⊢
  refine ⟨(by show 4 ≤ sizeLine; decide), fun A2 hA2 => ?_⟩
  have dA2 : (upd H19 A2 (.lst [.ref C1, .ref C2, .ref C3, .ref C4])) A2 = some (.lst [.ref C1, .ref C2, .ref C3, .ref C4]) := upd_same
  have nA2 := (pen1.apart hA2).1
  have kk : Kp [p] H19 (upd H19 A2 (.lst [.ref C1, .ref C2, .ref C3, .ref C4])) := Kp.new hA2
  replace dO := Dp.keep kk _ _ (data_fz _) dO
  replace dPa := Dp.keep kk _ _ (data_fz _) dPa
  replace dG := Dp.keep kk _ _ (data_fz _) dG
  replace dFo := Dp.keep kk _ _ (data_fz _) dFo
  replace dFo2 := Dp.keep kk _ _ (data_fz _) dFo2
  replace dGi := Dp.keep kk _ _ (data_fz _) dGi
  replace dFn := Dp.keep kk _ _ (data_fz _) dFn
  replace dNb := Dp.keep kk _ _ (data_fz _) dNb
  replace dC1 := Dp.keep kk _ _ (data_fz _) dC1
  replace dC2 := Dp.keep kk _ _ (data_fz _) dC2
  replace dC3 := Dp.keep kk _ _ (data_fz _) dC3
  replace dC4 := Dp.keep kk _ _ (data_fz _) dC4
  replace dA1 := kk.lst dA1 (not1 nA1)
  replace pen1 := pen1.new (o := (.lst [.ref C1, .ref C2, .ref C3, .ref C4])) hA2
  replace k1 := k1.trans kk
  clear kk
  generalize upd H19 A2 (.lst [.ref C1, .ref C2, .ref C3, .ref C4]) = H20 at dA2 dO dPa dG dFo dFo2 dGi dFn dNb dC1 dC2 dC3 dC4 dA1 pen1 k1 ⊢
  refine ⟨A1, A2, _, _, rfl, rfl, dA1, dA2, (by show 11 ≤ sizeLine; decide), fun B2 hB2 => ?_⟩
  have dB2 : (upd H20 B2 (.lst ([.ref O, .ref Pa, .ref Fo, .ref Gi, .ref Fn, .ref G, .ref Nb] ++ [.ref C1, .ref C2, .ref C3, .ref C4]))) B2 = some (.lst ([.ref O, .ref Pa, .ref Fo, .ref Gi, .ref Fn, .ref G, .ref Nb] ++ [.ref C1, .ref C2, .ref C3, .ref C4])) := upd_same
  have nB2 := (pen1.apart hB2).1
  have kk : Kp [p] H20 (upd H20 B2 (.lst ([.ref O, .ref Pa, .ref Fo, .ref Gi, .ref Fn, .ref G, .ref Nb] ++ [.ref C1, .ref C2, .ref C3, .ref C4]))) := Kp.new hB2
  clear dA1 dA2 nA1 nA2
  replace dO := Dp.keep kk _ _ (data_fz _) dO
  replace dPa := Dp.keep kk _ _ (data_fz _) dPa
  replace dG := Dp.keep kk _ _ (data_fz _) dG
  replace dFo := Dp.keep kk _ _ (data_fz _) dFo
  replace dFo2 := Dp.keep kk _ _ (data_fz _) dFo2
  replace dGi := Dp.keep kk _ _ (data_fz _) dGi
  replace dFn := Dp.keep kk _ _ (data_fz _) dFn
  replace dNb := Dp.keep kk _ _ (data_fz _) dNb
  replace dC1 := Dp.keep kk _ _ (data_fz _) dC1
  replace dC2 := Dp.keep kk _ _ (data_fz _) dC2
  replace dC3 := Dp.keep kk _ _ (data_fz _) dC3
  replace dC4 := Dp.keep kk _ _ (data_fz _) dC4
  replace pen1 := pen1.new (o := (.lst ([.ref O, .ref Pa, .ref Fo, .ref Gi, .ref Fn, .ref G, .ref Nb] ++ [.ref C1, .ref C2, .ref C3, .ref C4]))) hB2
  replace k1 := k1.trans kk
  clear kk
  generalize upd H20 B2 (.lst ([.ref O, .ref Pa, .ref Fo, .ref Gi, .ref Fn, .ref G, .ref Nb] ++ [.ref C1, .ref C2, .ref C3, .ref C4])) = H21 at dB2 dO dPa dG dFo dFo2 dGi dFn dNb dC1 dC2 dC3 dC4 pen1 k1 ⊢
  replace dB2 : H21 B2 = some (.lst [.ref O, .ref Pa, .ref Fo, .ref Gi, .ref Fn, .ref G, .ref Nb, .ref C1, .ref C2, .ref C3, .ref C4]) := dB2
  refine ⟨_, rfl, ?_⟩
  refine ⟨(by show 2 ≤ sizeLine; decide), fun E0 hE0 => ?_⟩
  have dE0 : Dp K (upd H21 E0 (.tup [.str "fun", .str "of"])) (.ref E0) (Lz.P.fn "of").data := Dp.newT hE0 (.cons (.str _) (.cons (.str _) .nil)) (by exact data_fz (Lz.P.fn "of"))
  have kk : Kp [p] H21 (upd H21 E0 (.tup [.str "fun", .str "of"])) := Kp.new hE0
  replace dO := Dp.keep kk _ _ (data_fz _) dO
  replace dPa := Dp.keep kk _ _ (data_fz _) dPa
  replace dG := Dp.keep kk _ _ (data_fz _) dG
  replace dFo := Dp.keep kk _ _ (data_fz _) dFo
  replace dFo2 := Dp.keep kk _ _ (data_fz _) dFo2
  replace dGi := Dp.keep kk _ _ (data_fz _) dGi
  replace dFn := Dp.keep kk _ _ (data_fz _) dFn
  replace dNb := Dp.keep kk _ _ (data_fz _) dNb
  replace dC1 := Dp.keep kk _ _ (data_fz _) dC1
  replace dC2 := Dp.keep kk _ _ (data_fz _) dC2
  replace dC3 := Dp.keep kk _ _ (data_fz _) dC3
  replace dC4 := Dp.keep kk _ _ (data_fz _) dC4
  replace dB2 := kk.lst dB2 (not1 nB2)
  replace pen1 := pen1.new (o := (.tup [.str "fun", .str "of"])) hE0
  replace k1 := k1.trans kk
  clear kk
  generalize upd H21 E0 (.tup [.str "fun", .str "of"]) = H22 at dO dPa dG dFo dFo2 dGi dFn dNb dC1 dC2 dC3 dC4 dE0 dB2 pen1 k1 ⊢
  refine ⟨_, rfl, (by show 3 ≤ sizeLine; decide), fun E1 hE1 => ?_⟩
  have dE1 : Dp K (upd H22 E1 (.tup [.str "give", .ref E0, .ref O])) (.ref E1) (Lz.P.op "give" [.fn "of", .num z]).data := Dp.newT hE1 (.cons (.str _) (.cons dE0 (.cons dO .nil))) (by exact data_fz (Lz.P.op "give" [.fn "of", .num z]))
  have kk : Kp [p] H22 (upd H22 E1 (.tup [.str "give", .ref E0, .ref O])) := Kp.new hE1
  replace dO := Dp.keep kk _ _ (data_fz _) dO
  replace dPa := Dp.keep kk _ _ (data_fz _) dPa
  replace dG := Dp.keep kk _ _ (data_fz _) dG
  replace dFo := Dp.keep kk _ _ (data_fz _) dFo
  replace dFo2 := Dp.keep kk _ _ (data_fz _) dFo2
  replace dGi := Dp.keep kk _ _ (data_fz _) dGi
  replace dFn := Dp.keep kk _ _ (data_fz _) dFn
  replace dNb := Dp.keep kk _ _ (data_fz _) dNb
  replace dC1 := Dp.keep kk _ _ (data_fz _) dC1
  replace dC2 := Dp.keep kk _ _ (data_fz _) dC2
  replace dC3 := Dp.keep kk _ _ (data_fz _) dC3
  replace dC4 := Dp.keep kk _ _ (data_fz _) dC4
  replace dE0 := Dp.keep kk _ _ (data_fz _) dE0
  replace dB2 := kk.lst dB2 (not1 nB2)
  replace pen1 := pen1.new (o := (.tup [.str "give", .ref E0, .ref O])) hE1
  replace k1 := k1.trans kk
  clear kk
  generalize upd H22 E1 (.tup [.str "give", .ref E0, .ref O]) = H23 at dO dPa dG dFo dFo2 dGi dFn dNb dC1 dC2 dC3 dC4 dE0 dE1 dB2 pen1 k1 ⊢
  refine ⟨_, rfl, (by show 3 ≤ sizeLine; decide), fun E2 hE2 => ?_⟩
  have dE2 : Dp K (upd H23 E2 (.tup [.str "give", .ref E1, .ref Pa])) (.ref E2) (Lz.P.op "give" [.op "give" [.fn "of", .num z], .op "pair" [.num 1, .op "left" [.num 2]]]).data := Dp.newT hE2 (.cons (.str _) (.cons dE1 (.cons dPa .nil))) (by exact data_fz (Lz.P.op "give" [.op "give" [.fn "of", .num z], .op "pair" [.num 1, .op "left" [.num 2]]]))
  have kk : Kp [p] H23 (upd H23 E2 (.tup [.str "give", .ref E1, .ref Pa])) := Kp.new hE2
  replace dO := Dp.keep kk _ _ (data_fz _) dO
  replace dPa := Dp.keep kk _ _ (data_fz _) dPa
  replace dG := Dp.keep kk _ _ (data_fz _) dG
  replace dFo := Dp.keep kk _ _ (data_fz _) dFo
  replace dFo2 := Dp.keep kk _ _ (data_fz _) dFo2
  replace dGi := Dp.keep kk _ _ (data_fz _) dGi
  replace dFn := Dp.keep kk _ _ (data_fz _) dFn
  replace dNb := Dp.keep kk _ _ (data_fz _) dNb
  replace dC1 := Dp.keep kk _ _ (data_fz _) dC1
  replace dC2 := Dp.keep kk _ _ (data_fz _) dC2
  replace dC3 := Dp.keep kk _ _ (data_fz _) dC3
  replace dC4 := Dp.keep kk _ _ (data_fz _) dC4
  replace dE0 := Dp.keep kk _ _ (data_fz _) dE0
  replace dE1 := Dp.keep kk _ _ (data_fz _) dE1
  replace dB2 := kk.lst dB2 (not1 nB2)
  replace pen1 := pen1.new (o := (.tup [.str "give", .ref E1, .ref Pa])) hE2
  replace k1 := k1.trans kk
  clear kk
  generalize upd H23 E2 (.tup [.str "give", .ref E1, .ref Pa]) = H24 at dO dPa dG dFo dFo2 dGi dFn dNb dC1 dC2 dC3 dC4 dE0 dE1 dE2 dB2 pen1 k1 ⊢
  refine ⟨_, _, rfl, rfl, ⟨by decide, by decide, by decide⟩, (by show 2 ≤ sizeLine; decide), fun E3 hE3 => ?_⟩
  have dE3 : Dp K (upd H24 E3 (.tup [.str "number", .int (10 ^ (30 : Int).toNat)])) (.ref E3) (Lz.P.num (10 ^ (30 : Int).toNat)).data := Dp.newT hE3 (.cons (.str _) (.cons (.int _) .nil)) (by exact data_fz (Lz.P.num (10 ^ (30 : Int).toNat)))
  have kk : Kp [p] H24 (upd H24 E3 (.tup [.str "number", .int (10 ^ (30 : Int).toNat)])) := Kp.new hE3
  replace dO := Dp.keep kk _ _ (data_fz _) dO
  replace dPa := Dp.keep kk _ _ (data_fz _) dPa
  replace dG := Dp.keep kk _ _ (data_fz _) dG
  replace dFo := Dp.keep kk _ _ (data_fz _) dFo
  replace dFo2 := Dp.keep kk _ _ (data_fz _) dFo2
  replace dGi := Dp.keep kk _ _ (data_fz _) dGi
  replace dFn := Dp.keep kk _ _ (data_fz _) dFn
  replace dNb := Dp.keep kk _ _ (data_fz _) dNb
  replace dC1 := Dp.keep kk _ _ (data_fz _) dC1
  replace dC2 := Dp.keep kk _ _ (data_fz _) dC2
  replace dC3 := Dp.keep kk _ _ (data_fz _) dC3
  replace dC4 := Dp.keep kk _ _ (data_fz _) dC4
  replace dE0 := Dp.keep kk _ _ (data_fz _) dE0
  replace dE1 := Dp.keep kk _ _ (data_fz _) dE1
  replace dE2 := Dp.keep kk _ _ (data_fz _) dE2
  replace dB2 := kk.lst dB2 (not1 nB2)
  replace pen1 := pen1.new (o := (.tup [.str "number", .int (10 ^ (30 : Int).toNat)])) hE3
  replace k1 := k1.trans kk
  clear kk
  generalize upd H24 E3 (.tup [.str "number", .int (10 ^ (30 : Int).toNat)]) = H25 at dO dPa dG dFo dFo2 dGi dFn dNb dC1 dC2 dC3 dC4 dE0 dE1 dE2 dE3 dB2 pen1 k1 ⊢
  rw [← ezb] at dE3
  refine ⟨_, _, rfl, rfl, ⟨by decide, by decide, by decide⟩, (by show 2 ≤ sizeLine; decide), fun E4 hE4 => ?_⟩
  have dE4 : Dp K (upd H25 E4 (.tup [.str "number", .int (10 ^ (30 : Int).toNat)])) (.ref E4) (Lz.P.num (10 ^ (30 : Int).toNat)).data := Dp.newT hE4 (.cons (.str _) (.cons (.int _) .nil)) (by exact data_fz (Lz.P.num (10 ^ (30 : Int).toNat)))
  have kk : Kp [p] H25 (upd H25 E4 (.tup [.str "number", .int (10 ^ (30 : Int).toNat)])) := Kp.new hE4
  replace dO := Dp.keep kk _ _ (data_fz _) dO
  replace dPa := Dp.keep kk _ _ (data_fz _) dPa
  replace dG := Dp.keep kk _ _ (data_fz _) dG
  replace dFo := Dp.keep kk _ _ (data_fz _) dFo
  replace dFo2 := Dp.keep kk _ _ (data_fz _) dFo2
  replace dGi := Dp.keep kk _ _ (data_fz _) dGi
  replace dFn := Dp.keep kk _ _ (data_fz _) dFn
  replace dNb := Dp.keep kk _ _ (data_fz _) dNb
  replace dC1 := Dp.keep kk _ _ (data_fz _) dC1
  replace dC2 := Dp.keep kk _ _ (data_fz _) dC2
  replace dC3 := Dp.keep kk _ _ (data_fz _) dC3
  replace dC4 := Dp.keep kk _ _ (data_fz _) dC4
  replace dE0 := Dp.keep kk _ _ (data_fz _) dE0
  replace dE1 := Dp.keep kk _ _ (data_fz _) dE1
  replace dE2 := Dp.keep kk _ _ (data_fz _) dE2
  replace dE3 := Dp.keep kk _ _ (data_fz _) dE3
  replace dB2 := kk.lst dB2 (not1 nB2)
  replace pen1 := pen1.new (o := (.tup [.str "number", .int (10 ^ (30 : Int).toNat)])) hE4
  replace k1 := k1.trans kk
  clear kk
  generalize upd H25 E4 (.tup [.str "number", .int (10 ^ (30 : Int).toNat)]) = H26 at dO dPa dG dFo dFo2 dGi dFn dNb dC1 dC2 dC3 dC4 dE0 dE1 dE2 dE3 dE4 dB2 pen1 k1 ⊢
  rw [← ezb] at dE4
  refine ⟨(by show 3 ≤ sizeLine; decide), fun E5 hE5 => ?_⟩
  have dE5 : Dp K (upd H26 E5 (.tup [.str "times", .ref E3, .ref E4])) (.ref E5) (Lz.P.op "times" [.num zb, .num zb]).data := Dp.newT hE5 (.cons (.str _) (.cons dE3 (.cons dE4 .nil))) (by exact data_fz (Lz.P.op "times" [.num zb, .num zb]))
  have kk : Kp [p] H26 (upd H26 E5 (.tup [.str "times", .ref E3, .ref E4])) := Kp.new hE5
  replace dO := Dp.keep kk _ _ (data_fz _) dO
  replace dPa := Dp.keep kk _ _ (data_fz _) dPa
  replace dG := Dp.keep kk _ _ (data_fz _) dG
  replace dFo := Dp.keep kk _ _ (data_fz _) dFo
  replace dFo2 := Dp.keep kk _ _ (data_fz _) dFo2
  replace dGi := Dp.keep kk _ _ (data_fz _) dGi
  replace dFn := Dp.keep kk _ _ (data_fz _) dFn
  replace dNb := Dp.keep kk _ _ (data_fz _) dNb
  replace dC1 := Dp.keep kk _ _ (data_fz _) dC1
  replace dC2 := Dp.keep kk _ _ (data_fz _) dC2
  replace dC3 := Dp.keep kk _ _ (data_fz _) dC3
  replace dC4 := Dp.keep kk _ _ (data_fz _) dC4
  replace dE0 := Dp.keep kk _ _ (data_fz _) dE0
  replace dE1 := Dp.keep kk _ _ (data_fz _) dE1
  replace dE2 := Dp.keep kk _ _ (data_fz _) dE2
  replace dE3 := Dp.keep kk _ _ (data_fz _) dE3
  replace dE4 := Dp.keep kk _ _ (data_fz _) dE4
  replace dB2 := kk.lst dB2 (not1 nB2)
  replace pen1 := pen1.new (o := (.tup [.str "times", .ref E3, .ref E4])) hE5
  replace k1 := k1.trans kk
  clear kk
  generalize upd H26 E5 (.tup [.str "times", .ref E3, .ref E4]) = H27 at dO dPa dG dFo dFo2 dGi dFn dNb dC1 dC2 dC3 dC4 dE0 dE1 dE2 dE3 dE4 dE5 dB2 pen1 k1 ⊢
  refine ⟨(by show 2 ≤ sizeLine; decide), fun A3 hA3 => ?_⟩
  have dA3 : (upd H27 A3 (.lst [.ref E2, .ref E5])) A3 = some (.lst [.ref E2, .ref E5]) := upd_same
  have nA3 := (pen1.apart hA3).1
  have kk : Kp [p] H27 (upd H27 A3 (.lst [.ref E2, .ref E5])) := Kp.new hA3
  replace dO := Dp.keep kk _ _ (data_fz _) dO
  replace dPa := Dp.keep kk _ _ (data_fz _) dPa
  replace dG := Dp.keep kk _ _ (data_fz _) dG
  replace dFo := Dp.keep kk _ _ (data_fz _) dFo
  replace dFo2 := Dp.keep kk _ _ (data_fz _) dFo2
  replace dGi := Dp.keep kk _ _ (data_fz _) dGi
  replace dFn := Dp.keep kk _ _ (data_fz _) dFn
  replace dNb := Dp.keep kk _ _ (data_fz _) dNb
  replace dC1 := Dp.keep kk _ _ (data_fz _) dC1
  replace dC2 := Dp.keep kk _ _ (data_fz _) dC2
  replace dC3 := Dp.keep kk _ _ (data_fz _) dC3
  replace dC4 := Dp.keep kk _ _ (data_fz _) dC4
  replace dE0 := Dp.keep kk _ _ (data_fz _) dE0
  replace dE1 := Dp.keep kk _ _ (data_fz _) dE1
  replace dE2 := Dp.keep kk _ _ (data_fz _) dE2
  replace dE3 := Dp.keep kk _ _ (data_fz _) dE3
  replace dE4 := Dp.keep kk _ _ (data_fz _) dE4
  replace dE5 := Dp.keep kk _ _ (data_fz _) dE5
  replace dB2 := kk.lst dB2 (not1 nB2)
  replace pen1 := pen1.new (o := (.lst [.ref E2, .ref E5])) hA3
  replace k1 := k1.trans kk
  clear kk
  generalize upd H27 A3 (.lst [.ref E2, .ref E5]) = H28 at dA3 dO dPa dG dFo dFo2 dGi dFn dNb dC1 dC2 dC3 dC4 dE0 dE1 dE2 dE3 dE4 dE5 dB2 pen1 k1 ⊢
  refine ⟨B2, A3, _, _, rfl, rfl, dB2, dA3, (by show 13 ≤ sizeLine; decide), fun B3 hB3 => ?_⟩
  have dB3 : (upd H28 B3 (.lst ([.ref O, .ref Pa, .ref Fo, .ref Gi, .ref Fn, .ref G, .ref Nb, .ref C1, .ref C2, .ref C3, .ref C4] ++ [.ref E2, .ref E5]))) B3 = some (.lst ([.ref O, .ref Pa, .ref Fo, .ref Gi, .ref Fn, .ref G, .ref Nb, .ref C1, .ref C2, .ref C3, .ref C4] ++ [.ref E2, .ref E5])) := upd_same
  have nB3 := (pen1.apart hB3).1
  have kk : Kp [p] H28 (upd H28 B3 (.lst ([.ref O, .ref Pa, .ref Fo, .ref Gi, .ref Fn, .ref G, .ref Nb, .ref C1, .ref C2, .ref C3, .ref C4] ++ [.ref E2, .ref E5]))) := Kp.new hB3
  clear dB2 dA3 nB2 nA3
  replace dO := Dp.keep kk _ _ (data_fz _) dO
  replace dPa := Dp.keep kk _ _ (data_fz _) dPa
  replace dG := Dp.keep kk _ _ (data_fz _) dG
  replace dFo := Dp.keep kk _ _ (data_fz _) dFo
  replace dFo2 := Dp.keep kk _ _ (data_fz _) dFo2
  replace dGi := Dp.keep kk _ _ (data_fz _) dGi
  replace dFn := Dp.keep kk _ _ (data_fz _) dFn
  replace dNb := Dp.keep kk _ _ (data_fz _) dNb
  replace dC1 := Dp.keep kk _ _ (data_fz _) dC1
  replace dC2 := Dp.keep kk _ _ (data_fz _) dC2
  replace dC3 := Dp.keep kk _ _ (data_fz _) dC3
  replace dC4 := Dp.keep kk _ _ (data_fz _) dC4
  replace dE0 := Dp.keep kk _ _ (data_fz _) dE0
  replace dE1 := Dp.keep kk _ _ (data_fz _) dE1
  replace dE2 := Dp.keep kk _ _ (data_fz _) dE2
  replace dE3 := Dp.keep kk _ _ (data_fz _) dE3
  replace dE4 := Dp.keep kk _ _ (data_fz _) dE4
  replace dE5 := Dp.keep kk _ _ (data_fz _) dE5
  replace pen1 := pen1.new (o := (.lst ([.ref O, .ref Pa, .ref Fo, .ref Gi, .ref Fn, .ref G, .ref Nb, .ref C1, .ref C2, .ref C3, .ref C4] ++ [.ref E2, .ref E5]))) hB3
  replace k1 := k1.trans kk
  clear kk
  generalize upd H28 B3 (.lst ([.ref O, .ref Pa, .ref Fo, .ref Gi, .ref Fn, .ref G, .ref Nb, .ref C1, .ref C2, .ref C3, .ref C4] ++ [.ref E2, .ref E5])) = H29 at dB3 dO dPa dG dFo dFo2 dGi dFn dNb dC1 dC2 dC3 dC4 dE0 dE1 dE2 dE3 dE4 dE5 pen1 k1 ⊢
  replace dB3 : H29 B3 = some (.lst [.ref O, .ref Pa, .ref Fo, .ref Gi, .ref Fn, .ref G, .ref Nb, .ref C1, .ref C2, .ref C3, .ref C4, .ref E2, .ref E5]) := dB3
  refine ⟨_, rfl, ?_⟩
  refine ⟨_, rfl, _, rfl, _, rfl, (by show 4 ≤ sizeLine; decide), fun I1 hI1 => ?_⟩
  have dI1 : Dp K (upd H29 I1 (.tup [.str "when", .ref Pa, .ref O, .ref O])) (.ref I1) (Lz.P.op "when" [.op "pair" [.num 1, .op "left" [.num 2]], .num z, .num z]).data := Dp.newT hI1 (.cons (.str _) (.cons dPa (.cons dO (.cons dO .nil)))) (by exact data_fz (Lz.P.op "when" [.op "pair" [.num 1, .op "left" [.num 2]], .num z, .num z]))
  have kk : Kp [p] H29 (upd H29 I1 (.tup [.str "when", .ref Pa, .ref O, .ref O])) := Kp.new hI1
  replace dO := Dp.keep kk _ _ (data_fz _) dO
  replace dPa := Dp.keep kk _ _ (data_fz _) dPa
  replace dG := Dp.keep kk _ _ (data_fz _) dG
  replace dFo := Dp.keep kk _ _ (data_fz _) dFo
  replace dFo2 := Dp.keep kk _ _ (data_fz _) dFo2
  replace dGi := Dp.keep kk _ _ (data_fz _) dGi
  replace dFn := Dp.keep kk _ _ (data_fz _) dFn
  replace dNb := Dp.keep kk _ _ (data_fz _) dNb
  replace dC1 := Dp.keep kk _ _ (data_fz _) dC1
  replace dC2 := Dp.keep kk _ _ (data_fz _) dC2
  replace dC3 := Dp.keep kk _ _ (data_fz _) dC3
  replace dC4 := Dp.keep kk _ _ (data_fz _) dC4
  replace dE0 := Dp.keep kk _ _ (data_fz _) dE0
  replace dE1 := Dp.keep kk _ _ (data_fz _) dE1
  replace dE2 := Dp.keep kk _ _ (data_fz _) dE2
  replace dE3 := Dp.keep kk _ _ (data_fz _) dE3
  replace dE4 := Dp.keep kk _ _ (data_fz _) dE4
  replace dE5 := Dp.keep kk _ _ (data_fz _) dE5
  replace dB3 := kk.lst dB3 (not1 nB3)
  replace pen1 := pen1.new (o := (.tup [.str "when", .ref Pa, .ref O, .ref O])) hI1
  replace k1 := k1.trans kk
  clear kk
  generalize upd H29 I1 (.tup [.str "when", .ref Pa, .ref O, .ref O]) = H30 at dO dPa dG dFo dFo2 dGi dFn dNb dC1 dC2 dC3 dC4 dE0 dE1 dE2 dE3 dE4 dE5 dI1 dB3 pen1 k1 ⊢
  refine ⟨_, rfl, _, rfl, (by show 3 ≤ sizeLine; decide), fun I2 hI2 => ?_⟩
  have dI2 : Dp K (upd H30 I2 (.tup [.str "less", .ref O, .ref G])) (.ref I2) (Lz.P.op "less" [.num z, .num zg]).data := Dp.newT hI2 (.cons (.str _) (.cons dO (.cons dG .nil))) (by exact data_fz (Lz.P.op "less" [.num z, .num zg]))
  have kk : Kp [p] H30 (upd H30 I2 (.tup [.str "less", .ref O, .ref G])) := Kp.new hI2
  replace dO := Dp.keep kk _ _ (data_fz _) dO
  replace dPa := Dp.keep kk _ _ (data_fz _) dPa
  replace dG := Dp.keep kk _ _ (data_fz _) dG
  replace dFo := Dp.keep kk _ _ (data_fz _) dFo
  replace dFo2 := Dp.keep kk _ _ (data_fz _) dFo2
  replace dGi := Dp.keep kk _ _ (data_fz _) dGi
  replace dFn := Dp.keep kk _ _ (data_fz _) dFn
  replace dNb := Dp.keep kk _ _ (data_fz _) dNb
  replace dC1 := Dp.keep kk _ _ (data_fz _) dC1
  replace dC2 := Dp.keep kk _ _ (data_fz _) dC2
  replace dC3 := Dp.keep kk _ _ (data_fz _) dC3
  replace dC4 := Dp.keep kk _ _ (data_fz _) dC4
  replace dE0 := Dp.keep kk _ _ (data_fz _) dE0
  replace dE1 := Dp.keep kk _ _ (data_fz _) dE1
  replace dE2 := Dp.keep kk _ _ (data_fz _) dE2
  replace dE3 := Dp.keep kk _ _ (data_fz _) dE3
  replace dE4 := Dp.keep kk _ _ (data_fz _) dE4
  replace dE5 := Dp.keep kk _ _ (data_fz _) dE5
  replace dI1 := Dp.keep kk _ _ (data_fz _) dI1
  replace dB3 := kk.lst dB3 (not1 nB3)
  replace pen1 := pen1.new (o := (.tup [.str "less", .ref O, .ref G])) hI2
  replace k1 := k1.trans kk
  clear kk
  generalize upd H30 I2 (.tup [.str "less", .ref O, .ref G]) = H31 at dO dPa dG dFo dFo2 dGi dFn dNb dC1 dC2 dC3 dC4 dE0 dE1 dE2 dE3 dE4 dE5 dI1 dI2 dB3 pen1 k1 ⊢
  refine ⟨_, rfl, (by show 2 ≤ sizeLine; decide), fun I3 hI3 => ?_⟩
  have dI3 : Dp K (upd H31 I3 (.tup [.str "right", .ref Pa])) (.ref I3) (Lz.P.op "right" [.op "pair" [.num 1, .op "left" [.num 2]]]).data := Dp.newT hI3 (.cons (.str _) (.cons dPa .nil)) (by exact data_fz (Lz.P.op "right" [.op "pair" [.num 1, .op "left" [.num 2]]]))
  have kk : Kp [p] H31 (upd H31 I3 (.tup [.str "right", .ref Pa])) := Kp.new hI3
  replace dO := Dp.keep kk _ _ (data_fz _) dO
  replace dPa := Dp.keep kk _ _ (data_fz _) dPa
  replace dG := Dp.keep kk _ _ (data_fz _) dG
  replace dFo := Dp.keep kk _ _ (data_fz _) dFo
  replace dFo2 := Dp.keep kk _ _ (data_fz _) dFo2
  replace dGi := Dp.keep kk _ _ (data_fz _) dGi
  replace dFn := Dp.keep kk _ _ (data_fz _) dFn
  replace dNb := Dp.keep kk _ _ (data_fz _) dNb
  replace dC1 := Dp.keep kk _ _ (data_fz _) dC1
  replace dC2 := Dp.keep kk _ _ (data_fz _) dC2
  replace dC3 := Dp.keep kk _ _ (data_fz _) dC3
  replace dC4 := Dp.keep kk _ _ (data_fz _) dC4
  replace dE0 := Dp.keep kk _ _ (data_fz _) dE0
  replace dE1 := Dp.keep kk _ _ (data_fz _) dE1
  replace dE2 := Dp.keep kk _ _ (data_fz _) dE2
  replace dE3 := Dp.keep kk _ _ (data_fz _) dE3
  replace dE4 := Dp.keep kk _ _ (data_fz _) dE4
  replace dE5 := Dp.keep kk _ _ (data_fz _) dE5
  replace dI1 := Dp.keep kk _ _ (data_fz _) dI1
  replace dI2 := Dp.keep kk _ _ (data_fz _) dI2
  replace dB3 := kk.lst dB3 (not1 nB3)
  replace pen1 := pen1.new (o := (.tup [.str "right", .ref Pa])) hI3
  replace k1 := k1.trans kk
  clear kk
  generalize upd H31 I3 (.tup [.str "right", .ref Pa]) = H32 at dO dPa dG dFo dFo2 dGi dFn dNb dC1 dC2 dC3 dC4 dE0 dE1 dE2 dE3 dE4 dE5 dI1 dI2 dI3 dB3 pen1 k1 ⊢
  refine ⟨_, rfl, (by show 2 ≤ sizeLine; decide), fun I4 hI4 => ?_⟩
  have dI4 : Dp K (upd H32 I4 (.tup [.str "left", .ref Pa])) (.ref I4) (Lz.P.op "left" [.op "pair" [.num 1, .op "left" [.num 2]]]).data := Dp.newT hI4 (.cons (.str _) (.cons dPa .nil)) (by exact data_fz (Lz.P.op "left" [.op "pair" [.num 1, .op "left" [.num 2]]]))
  have kk : Kp [p] H32 (upd H32 I4 (.tup [.str "left", .ref Pa])) := Kp.new hI4
  replace dO := Dp.keep kk _ _ (data_fz _) dO
  replace dPa := Dp.keep kk _ _ (data_fz _) dPa
  replace dG := Dp.keep kk _ _ (data_fz _) dG
  replace dFo := Dp.keep kk _ _ (data_fz _) dFo
  replace dFo2 := Dp.keep kk _ _ (data_fz _) dFo2
  replace dGi := Dp.keep kk _ _ (data_fz _) dGi
  replace dFn := Dp.keep kk _ _ (data_fz _) dFn
  replace dNb := Dp.keep kk _ _ (data_fz _) dNb
  replace dC1 := Dp.keep kk _ _ (data_fz _) dC1
  replace dC2 := Dp.keep kk _ _ (data_fz _) dC2
  replace dC3 := Dp.keep kk _ _ (data_fz _) dC3
  replace dC4 := Dp.keep kk _ _ (data_fz _) dC4
  replace dE0 := Dp.keep kk _ _ (data_fz _) dE0
  replace dE1 := Dp.keep kk _ _ (data_fz _) dE1
  replace dE2 := Dp.keep kk _ _ (data_fz _) dE2
  replace dE3 := Dp.keep kk _ _ (data_fz _) dE3
  replace dE4 := Dp.keep kk _ _ (data_fz _) dE4
  replace dE5 := Dp.keep kk _ _ (data_fz _) dE5
  replace dI1 := Dp.keep kk _ _ (data_fz _) dI1
  replace dI2 := Dp.keep kk _ _ (data_fz _) dI2
  replace dI3 := Dp.keep kk _ _ (data_fz _) dI3
  replace dB3 := kk.lst dB3 (not1 nB3)
  replace pen1 := pen1.new (o := (.tup [.str "left", .ref Pa])) hI4
  replace k1 := k1.trans kk
  clear kk
  generalize upd H32 I4 (.tup [.str "left", .ref Pa]) = H33 at dO dPa dG dFo dFo2 dGi dFn dNb dC1 dC2 dC3 dC4 dE0 dE1 dE2 dE3 dE4 dE5 dI1 dI2 dI3 dI4 dB3 pen1 k1 ⊢
  refine ⟨(by show 4 ≤ sizeLine; decide), fun A4 hA4 => ?_⟩
  have dA4 : (upd H33 A4 (.lst [.ref I1, .ref I2, .ref I3, .ref I4])) A4 = some (.lst [.ref I1, .ref I2, .ref I3, .ref I4]) := upd_same
  have nA4 := (pen1.apart hA4).1
  have kk : Kp [p] H33 (upd H33 A4 (.lst [.ref I1, .ref I2, .ref I3, .ref I4])) := Kp.new hA4
  replace dO := Dp.keep kk _ _ (data_fz _) dO
  replace dPa := Dp.keep kk _ _ (data_fz _) dPa
  replace dG := Dp.keep kk _ _ (data_fz _) dG
  replace dFo := Dp.keep kk _ _ (data_fz _) dFo
  replace dFo2 := Dp.keep kk _ _ (data_fz _) dFo2
  replace dGi := Dp.keep kk _ _ (data_fz _) dGi
  replace dFn := Dp.keep kk _ _ (data_fz _) dFn
  replace dNb := Dp.keep kk _ _ (data_fz _) dNb
  replace dC1 := Dp.keep kk _ _ (data_fz _) dC1
  replace dC2 := Dp.keep kk _ _ (data_fz _) dC2
  replace dC3 := Dp.keep kk _ _ (data_fz _) dC3
  replace dC4 := Dp.keep kk _ _ (data_fz _) dC4
  replace dE0 := Dp.keep kk _ _ (data_fz _) dE0
  replace dE1 := Dp.keep kk _ _ (data_fz _) dE1
  replace dE2 := Dp.keep kk _ _ (data_fz _) dE2
  replace dE3 := Dp.keep kk _ _ (data_fz _) dE3
  replace dE4 := Dp.keep kk _ _ (data_fz _) dE4
  replace dE5 := Dp.keep kk _ _ (data_fz _) dE5
  replace dI1 := Dp.keep kk _ _ (data_fz _) dI1
  replace dI2 := Dp.keep kk _ _ (data_fz _) dI2
  replace dI3 := Dp.keep kk _ _ (data_fz _) dI3
  replace dI4 := Dp.keep kk _ _ (data_fz _) dI4
  replace dB3 := kk.lst dB3 (not1 nB3)
  replace pen1 := pen1.new (o := (.lst [.ref I1, .ref I2, .ref I3, .ref I4])) hA4
  replace k1 := k1.trans kk
  clear kk
  generalize upd H33 A4 (.lst [.ref I1, .ref I2, .ref I3, .ref I4]) = H34 at dA4 dO dPa dG dFo dFo2 dGi dFn dNb dC1 dC2 dC3 dC4 dE0 dE1 dE2 dE3 dE4 dE5 dI1 dI2 dI3 dI4 dB3 pen1 k1 ⊢
  refine ⟨B3, A4, _, _, rfl, rfl, dB3, dA4, (by show 17 ≤ sizeLine; decide), fun B4 hB4 => ?_⟩
  have dB4 : (upd H34 B4 (.lst ([.ref O, .ref Pa, .ref Fo, .ref Gi, .ref Fn, .ref G, .ref Nb, .ref C1, .ref C2, .ref C3, .ref C4, .ref E2, .ref E5] ++ [.ref I1, .ref I2, .ref I3, .ref I4]))) B4 = some (.lst ([.ref O, .ref Pa, .ref Fo, .ref Gi, .ref Fn, .ref G, .ref Nb, .ref C1, .ref C2, .ref C3, .ref C4, .ref E2, .ref E5] ++ [.ref I1, .ref I2, .ref I3, .ref I4])) := upd_same
  have nB4 := (pen1.apart hB4).1
  have kk : Kp [p] H34 (upd H34 B4 (.lst ([.ref O, .ref Pa, .ref Fo, .ref Gi, .ref Fn, .ref G, .ref Nb, .ref C1, .ref C2, .ref C3, .ref C4, .ref E2, .ref E5] ++ [.ref I1, .ref I2, .ref I3, .ref I4]))) := Kp.new hB4
  clear dB3 dA4 nB3 nA4
  replace dO := Dp.keep kk _ _ (data_fz _) dO
  replace dPa := Dp.keep kk _ _ (data_fz _) dPa
  replace dG := Dp.keep kk _ _ (data_fz _) dG
  replace dFo := Dp.keep kk _ _ (data_fz _) dFo
  replace dFo2 := Dp.keep kk _ _ (data_fz _) dFo2
  replace dGi := Dp.keep kk _ _ (data_fz _) dGi
  replace dFn := Dp.keep kk _ _ (data_fz _) dFn
  replace dNb := Dp.keep kk _ _ (data_fz _) dNb
  replace dC1 := Dp.keep kk _ _ (data_fz _) dC1
  replace dC2 := Dp.keep kk _ _ (data_fz _) dC2
  replace dC3 := Dp.keep kk _ _ (data_fz _) dC3
  replace dC4 := Dp.keep kk _ _ (data_fz _) dC4
  replace dE0 := Dp.keep kk _ _ (data_fz _) dE0
  replace dE1 := Dp.keep kk _ _ (data_fz _) dE1
  replace dE2 := Dp.keep kk _ _ (data_fz _) dE2
  replace dE3 := Dp.keep kk _ _ (data_fz _) dE3
  replace dE4 := Dp.keep kk _ _ (data_fz _) dE4
  replace dE5 := Dp.keep kk _ _ (data_fz _) dE5
  replace dI1 := Dp.keep kk _ _ (data_fz _) dI1
  replace dI2 := Dp.keep kk _ _ (data_fz _) dI2
  replace dI3 := Dp.keep kk _ _ (data_fz _) dI3
  replace dI4 := Dp.keep kk _ _ (data_fz _) dI4
  replace pen1 := pen1.new (o := (.lst ([.ref O, .ref Pa, .ref Fo, .ref Gi, .ref Fn, .ref G, .ref Nb, .ref C1, .ref C2, .ref C3, .ref C4, .ref E2, .ref E5] ++ [.ref I1, .ref I2, .ref I3, .ref I4]))) hB4
  replace k1 := k1.trans kk
  clear kk
  generalize upd H34 B4 (.lst ([.ref O, .ref Pa, .ref Fo, .ref Gi, .ref Fn, .ref G, .ref Nb, .ref C1, .ref C2, .ref C3, .ref C4, .ref E2, .ref E5] ++ [.ref I1, .ref I2, .ref I3, .ref I4])) = H35 at dB4 dO dPa dG dFo dFo2 dGi dFn dNb dC1 dC2 dC3 dC4 dE0 dE1 dE2 dE3 dE4 dE5 dI1 dI2 dI3 dI4 pen1 k1 ⊢
  replace dB4 : H35 B4 = some (.lst [.ref O, .ref Pa, .ref Fo, .ref Gi, .ref Fn, .ref G, .ref Nb, .ref C1, .ref C2, .ref C3, .ref C4, .ref E2, .ref E5, .ref I1, .ref I2, .ref I3, .ref I4]) := dB4
  refine ⟨_, rfl, ?_⟩
  refine ⟨_, rfl, _, rfl, (by show 3 ≤ sizeLine; decide), fun J1 hJ1 => ?_⟩
  have dJ1 : Dp K (upd H35 J1 (.tup [.str "below", .ref O, .ref G])) (.ref J1) (Lz.P.op "below" [.num z, .num zg]).data := Dp.newT hJ1 (.cons (.str _) (.cons dO (.cons dG .nil))) (by exact data_fz (Lz.P.op "below" [.num z, .num zg]))
  have kk : Kp [p] H35 (upd H35 J1 (.tup [.str "below", .ref O, .ref G])) := Kp.new hJ1
  replace dO := Dp.keep kk _ _ (data_fz _) dO
  replace dPa := Dp.keep kk _ _ (data_fz _) dPa
  replace dG := Dp.keep kk _ _ (data_fz _) dG
  replace dFo := Dp.keep kk _ _ (data_fz _) dFo
  replace dFo2 := Dp.keep kk _ _ (data_fz _) dFo2
  replace dGi := Dp.keep kk _ _ (data_fz _) dGi
  replace dFn := Dp.keep kk _ _ (data_fz _) dFn
  replace dNb := Dp.keep kk _ _ (data_fz _) dNb
  replace dC1 := Dp.keep kk _ _ (data_fz _) dC1
  replace dC2 := Dp.keep kk _ _ (data_fz _) dC2
  replace dC3 := Dp.keep kk _ _ (data_fz _) dC3
  replace dC4 := Dp.keep kk _ _ (data_fz _) dC4
  replace dE0 := Dp.keep kk _ _ (data_fz _) dE0
  replace dE1 := Dp.keep kk _ _ (data_fz _) dE1
  replace dE2 := Dp.keep kk _ _ (data_fz _) dE2
  replace dE3 := Dp.keep kk _ _ (data_fz _) dE3
  replace dE4 := Dp.keep kk _ _ (data_fz _) dE4
  replace dE5 := Dp.keep kk _ _ (data_fz _) dE5
  replace dI1 := Dp.keep kk _ _ (data_fz _) dI1
  replace dI2 := Dp.keep kk _ _ (data_fz _) dI2
  replace dI3 := Dp.keep kk _ _ (data_fz _) dI3
  replace dI4 := Dp.keep kk _ _ (data_fz _) dI4
  replace dB4 := kk.lst dB4 (not1 nB4)
  replace pen1 := pen1.new (o := (.tup [.str "below", .ref O, .ref G])) hJ1
  replace k1 := k1.trans kk
  clear kk
  generalize upd H35 J1 (.tup [.str "below", .ref O, .ref G]) = H36 at dO dPa dG dFo dFo2 dGi dFn dNb dC1 dC2 dC3 dC4 dE0 dE1 dE2 dE3 dE4 dE5 dI1 dI2 dI3 dI4 dJ1 dB4 pen1 k1 ⊢
  refine ⟨_, rfl, _, rfl, (by show 3 ≤ sizeLine; decide), fun J2 hJ2 => ?_⟩
  have dJ2 : Dp K (upd H36 J2 (.tup [.str "plus", .ref O, .ref Pa])) (.ref J2) (Lz.P.op "plus" [.num z, .op "pair" [.num 1, .op "left" [.num 2]]]).data := Dp.newT hJ2 (.cons (.str _) (.cons dO (.cons dPa .nil))) (by exact data_fz (Lz.P.op "plus" [.num z, .op "pair" [.num 1, .op "left" [.num 2]]]))
  have kk : Kp [p] H36 (upd H36 J2 (.tup [.str "plus", .ref O, .ref Pa])) := Kp.new hJ2
  replace dO := Dp.keep kk _ _ (data_fz _) dO
  replace dPa := Dp.keep kk _ _ (data_fz _) dPa
  replace dG := Dp.keep kk _ _ (data_fz _) dG
  replace dFo := Dp.keep kk _ _ (data_fz _) dFo
  replace dFo2 := Dp.keep kk _ _ (data_fz _) dFo2
  replace dGi := Dp.keep kk _ _ (data_fz _) dGi
  replace dFn := Dp.keep kk _ _ (data_fz _) dFn
  replace dNb := Dp.keep kk _ _ (data_fz _) dNb
  replace dC1 := Dp.keep kk _ _ (data_fz _) dC1
  replace dC2 := Dp.keep kk _ _ (data_fz _) dC2
  replace dC3 := Dp.keep kk _ _ (data_fz _) dC3
  replace dC4 := Dp.keep kk _ _ (data_fz _) dC4
  replace dE0 := Dp.keep kk _ _ (data_fz _) dE0
  replace dE1 := Dp.keep kk _ _ (data_fz _) dE1
  replace dE2 := Dp.keep kk _ _ (data_fz _) dE2
  replace dE3 := Dp.keep kk _ _ (data_fz _) dE3
  replace dE4 := Dp.keep kk _ _ (data_fz _) dE4
  replace dE5 := Dp.keep kk _ _ (data_fz _) dE5
  replace dI1 := Dp.keep kk _ _ (data_fz _) dI1
  replace dI2 := Dp.keep kk _ _ (data_fz _) dI2
  replace dI3 := Dp.keep kk _ _ (data_fz _) dI3
  replace dI4 := Dp.keep kk _ _ (data_fz _) dI4
  replace dJ1 := Dp.keep kk _ _ (data_fz _) dJ1
  replace dB4 := kk.lst dB4 (not1 nB4)
  replace pen1 := pen1.new (o := (.tup [.str "plus", .ref O, .ref Pa])) hJ2
  replace k1 := k1.trans kk
  clear kk
  generalize upd H36 J2 (.tup [.str "plus", .ref O, .ref Pa]) = H37 at dO dPa dG dFo dFo2 dGi dFn dNb dC1 dC2 dC3 dC4 dE0 dE1 dE2 dE3 dE4 dE5 dI1 dI2 dI3 dI4 dJ1 dJ2 dB4 pen1 k1 ⊢
  refine ⟨(by show 2 ≤ sizeLine; decide), fun A5 hA5 => ?_⟩
  have dA5 : (upd H37 A5 (.lst [.ref J1, .ref J2])) A5 = some (.lst [.ref J1, .ref J2]) := upd_same
  have nA5 := (pen1.apart hA5).1
  have kk : Kp [p] H37 (upd H37 A5 (.lst [.ref J1, .ref J2])) := Kp.new hA5
  replace dO := Dp.keep kk _ _ (data_fz _) dO
  replace dPa := Dp.keep kk _ _ (data_fz _) dPa
  replace dG := Dp.keep kk _ _ (data_fz _) dG
  replace dFo := Dp.keep kk _ _ (data_fz _) dFo
  replace dFo2 := Dp.keep kk _ _ (data_fz _) dFo2
  replace dGi := Dp.keep kk _ _ (data_fz _) dGi
  replace dFn := Dp.keep kk _ _ (data_fz _) dFn
  replace dNb := Dp.keep kk _ _ (data_fz _) dNb
  replace dC1 := Dp.keep kk _ _ (data_fz _) dC1
  replace dC2 := Dp.keep kk _ _ (data_fz _) dC2
  replace dC3 := Dp.keep kk _ _ (data_fz _) dC3
  replace dC4 := Dp.keep kk _ _ (data_fz _) dC4
  replace dE0 := Dp.keep kk _ _ (data_fz _) dE0
  replace dE1 := Dp.keep kk _ _ (data_fz _) dE1
  replace dE2 := Dp.keep kk _ _ (data_fz _) dE2
  replace dE3 := Dp.keep kk _ _ (data_fz _) dE3
  replace dE4 := Dp.keep kk _ _ (data_fz _) dE4
  replace dE5 := Dp.keep kk _ _ (data_fz _) dE5
  replace dI1 := Dp.keep kk _ _ (data_fz _) dI1
  replace dI2 := Dp.keep kk _ _ (data_fz _) dI2
  replace dI3 := Dp.keep kk _ _ (data_fz _) dI3
  replace dI4 := Dp.keep kk _ _ (data_fz _) dI4
  replace dJ1 := Dp.keep kk _ _ (data_fz _) dJ1
  replace dJ2 := Dp.keep kk _ _ (data_fz _) dJ2
  replace dB4 := kk.lst dB4 (not1 nB4)
  replace pen1 := pen1.new (o := (.lst [.ref J1, .ref J2])) hA5
  replace k1 := k1.trans kk
  clear kk
  generalize upd H37 A5 (.lst [.ref J1, .ref J2]) = H38 at dA5 dO dPa dG dFo dFo2 dGi dFn dNb dC1 dC2 dC3 dC4 dE0 dE1 dE2 dE3 dE4 dE5 dI1 dI2 dI3 dI4 dJ1 dJ2 dB4 pen1 k1 ⊢
  refine ⟨B4, A5, _, _, rfl, rfl, dB4, dA5, (by show 19 ≤ sizeLine; decide), fun B5 hB5 => ?_⟩
  have dB5 : (upd H38 B5 (.lst ([.ref O, .ref Pa, .ref Fo, .ref Gi, .ref Fn, .ref G, .ref Nb, .ref C1, .ref C2, .ref C3, .ref C4, .ref E2, .ref E5, .ref I1, .ref I2, .ref I3, .ref I4] ++ [.ref J1, .ref J2]))) B5 = some (.lst ([.ref O, .ref Pa, .ref Fo, .ref Gi, .ref Fn, .ref G, .ref Nb, .ref C1, .ref C2, .ref C3, .ref C4, .ref E2, .ref E5, .ref I1, .ref I2, .ref I3, .ref I4] ++ [.ref J1, .ref J2])) := upd_same
  have nB5 := (pen1.apart hB5).1
  have kk : Kp [p] H38 (upd H38 B5 (.lst ([.ref O, .ref Pa, .ref Fo, .ref Gi, .ref Fn, .ref G, .ref Nb, .ref C1, .ref C2, .ref C3, .ref C4, .ref E2, .ref E5, .ref I1, .ref I2, .ref I3, .ref I4] ++ [.ref J1, .ref J2]))) := Kp.new hB5
  clear dB4 dA5 nB4 nA5
  replace dO := Dp.keep kk _ _ (data_fz _) dO
  replace dPa := Dp.keep kk _ _ (data_fz _) dPa
  replace dG := Dp.keep kk _ _ (data_fz _) dG
  replace dFo := Dp.keep kk _ _ (data_fz _) dFo
  replace dFo2 := Dp.keep kk _ _ (data_fz _) dFo2
  replace dGi := Dp.keep kk _ _ (data_fz _) dGi
  replace dFn := Dp.keep kk _ _ (data_fz _) dFn
  replace dNb := Dp.keep kk _ _ (data_fz _) dNb
  replace dC1 := Dp.keep kk _ _ (data_fz _) dC1
  replace dC2 := Dp.keep kk _ _ (data_fz _) dC2
  replace dC3 := Dp.keep kk _ _ (data_fz _) dC3
  replace dC4 := Dp.keep kk _ _ (data_fz _) dC4
  replace dE0 := Dp.keep kk _ _ (data_fz _) dE0
  replace dE1 := Dp.keep kk _ _ (data_fz _) dE1
  replace dE2 := Dp.keep kk _ _ (data_fz _) dE2
  replace dE3 := Dp.keep kk _ _ (data_fz _) dE3
  replace dE4 := Dp.keep kk _ _ (data_fz _) dE4
  replace dE5 := Dp.keep kk _ _ (data_fz _) dE5
  replace dI1 := Dp.keep kk _ _ (data_fz _) dI1
  replace dI2 := Dp.keep kk _ _ (data_fz _) dI2
  replace dI3 := Dp.keep kk _ _ (data_fz _) dI3
  replace dI4 := Dp.keep kk _ _ (data_fz _) dI4
  replace dJ1 := Dp.keep kk _ _ (data_fz _) dJ1
  replace dJ2 := Dp.keep kk _ _ (data_fz _) dJ2
  replace pen1 := pen1.new (o := (.lst ([.ref O, .ref Pa, .ref Fo, .ref Gi, .ref Fn, .ref G, .ref Nb, .ref C1, .ref C2, .ref C3, .ref C4, .ref E2, .ref E5, .ref I1, .ref I2, .ref I3, .ref I4] ++ [.ref J1, .ref J2]))) hB5
  replace k1 := k1.trans kk
  clear kk
  generalize upd H38 B5 (.lst ([.ref O, .ref Pa, .ref Fo, .ref Gi, .ref Fn, .ref G, .ref Nb, .ref C1, .ref C2, .ref C3, .ref C4, .ref E2, .ref E5, .ref I1, .ref I2, .ref I3, .ref I4] ++ [.ref J1, .ref J2])) = H39 at dB5 dO dPa dG dFo dFo2 dGi dFn dNb dC1 dC2 dC3 dC4 dE0 dE1 dE2 dE3 dE4 dE5 dI1 dI2 dI3 dI4 dJ1 dJ2 pen1 k1 ⊢
  replace dB5 : H39 B5 = some (.lst [.ref O, .ref Pa, .ref Fo, .ref Gi, .ref Fn, .ref G, .ref Nb, .ref C1, .ref C2, .ref C3, .ref C4, .ref E2, .ref E5, .ref I1, .ref I2, .ref I3, .ref I4, .ref J1, .ref J2]) := dB5
  refine ⟨_, rfl, _, rfl, _, rfl, B5, _, rfl, .inl (SqL.of dB5), p, a, 19, rfl, pen1, (by decide), (by decide), fun r HZ kk penx r0 r1 => ?_⟩
  have qO : Mb 1 1 (.num z) := .num (smallMb z0 (by omega))
  have q1 : ∀ i : Int, i = 1 ∨ i = 2 → Mb 1 1 (.num i) := fun i e => .num (smallMb (by omega) (by omega))
  have qP : Mb 4 3 (.op "pair" [.num 1, .op "left" [.num 2]]) := .op2 (by decide +kernel) (q1 1 (.inl rfl)) (.op1 (by decide +kernel) (q1 2 (.inr rfl)))
  have qF : Mb 1 1 (.fn "of") := .fnOf
  have qG : Mb 1 1 (.num zg) := .num hzg
  have qB : Mb 1 1 (.num zb) := .num hzb
  have key : ∃ (X : V) (u : Lz.P), ([.ref O, .ref Pa, .ref Fo, .ref Gi, .ref Fn, .ref G, .ref Nb, .ref C1, .ref C2, .ref C3, .ref C4, .ref E2, .ref E5, .ref I1, .ref I2, .ref I3, .ref I4, .ref J1, .ref J2] : List V)[r.toNat]? = some X ∧ Dp K H39 X u.data ∧ Mb 8 4 u ∧ u.rown = [] := by
    have h0 : r.toNat < 19 := by omega
    generalize r.toNat = j at h0
    match j, h0 with
    | 0, _ => exact ⟨_, _, rfl, dO, Mb.mono qO (by decide) (by decide), rfl⟩
    | 1, _ => exact ⟨_, _, rfl, dPa, Mb.mono qP (by decide) (by decide), rfl⟩
    | 2, _ => exact ⟨_, _, rfl, dFo, Mb.mono qF (by decide) (by decide), rfl⟩
    | 3, _ => exact ⟨_, _, rfl, dGi, Mb.mono (.op2 (by decide +kernel) qF qP) (by decide) (by decide), rfl⟩
    | 4, _ => exact ⟨_, _, rfl, dFn, Mb.mono .fnOn (by decide) (by decide), rfl⟩
    | 5, _ => exact ⟨_, _, rfl, dG, Mb.mono qG (by decide) (by decide), rfl⟩
    | 6, _ => exact ⟨_, _, rfl, dNb, Mb.mono qB (by decide) (by decide), rfl⟩
    | 7, _ => exact ⟨_, _, rfl, dC1, Mb.mono (.op1 (by decide +kernel) qO) (by decide) (by decide), rfl⟩
    | 8, _ => exact ⟨_, _, rfl, dC2, Mb.mono (.op2 (by decide +kernel) qO qP) (by decide) (by decide), rfl⟩
    | 9, _ => exact ⟨_, _, rfl, dC3, Mb.mono (.op2 (by decide +kernel) qP qO) (by decide) (by decide), rfl⟩
    | 10, _ => exact ⟨_, _, rfl, dC4, Mb.mono (.op2 (by decide +kernel) qG qG) (by decide) (by decide), rfl⟩
    | 11, _ => exact ⟨_, _, rfl, dE2, Mb.mono (.op2 (by decide +kernel) (.op2 (by decide +kernel) qF qO) qP) (by decide) (by decide), rfl⟩
    | 12, _ => exact ⟨_, _, rfl, dE5, Mb.mono (.op2 (by decide +kernel) qB qB) (by decide) (by decide), rfl⟩
    | 13, _ => exact ⟨_, _, rfl, dI1, Mb.mono (.op3 (by decide +kernel) qP qO qO) (by decide) (by decide), rfl⟩
    | 14, _ => exact ⟨_, _, rfl, dI2, Mb.mono (.op2 (by decide +kernel) qO qG) (by decide) (by decide), rfl⟩
    | 15, _ => exact ⟨_, _, rfl, dI3, Mb.mono (.op1 (by decide +kernel) qP) (by decide) (by decide), rfl⟩
    | 16, _ => exact ⟨_, _, rfl, dI4, Mb.mono (.op1 (by decide +kernel) qP) (by decide) (by decide), rfl⟩
    | 17, _ => exact ⟨_, _, rfl, dJ1, Mb.mono (.op2 (by decide +kernel) qO qG) (by decide) (by decide), rfl⟩
    | 18, _ => exact ⟨_, _, rfl, dJ2, Mb.mono (.op2 (by decide +kernel) qO qP) (by decide) (by decide), rfl⟩
    | n + 19, h => omega
  obtain ⟨X, u, hX, hu, qu, hrn⟩ := key
  refine ⟨B5, _, _, _, rfl, rfl, SqL.of (kk.lst dB5 (not1 nB5)), at_of (j := r.toNat) (by omega) hX, ?_⟩
  exact q X u HZ (k1.trans kk) penx (Dp.keep kk _ _ (data_fz _) hu) qu hrn
end
end Lz

set_option Elab.async false
set_option linter.all false
set_option maxRecDepth 100000
set_option maxHeartbeats 8000000
namespace Lz
open PySem PySem.Spec PyProof.Rows L2
def spMixed (K : PySem.W.Frag) (n : Nat) : Sp := fun vs H Q _ => ∃ (p a ls : Addr) (m : Nat) (stk : List Str), vs = [.ref p, .int (m : Nat), .ref ls] ∧ m < n ∧ n ≤ 3 ∧ PenAt H p a ∧ H ls = some (.lst (stk.map V.str)) ∧ ls ≠ p ∧ ls ≠ a ∧ stk.Nodup ∧ (∀ x, x ∈ stk → nmOk x) ∧ needM m ≤ stk.length ∧
  ∀ (v : V) (t : Lz.P) (stk' : List Str) (H' : Hp), Kp [p, ls] H H' → PenAt H' p a → H' ls = some (.lst (stk'.map V.str)) → Dp K H' v t.data → Mb (manyM m) (4 + 2 * m) t → Rn stk stk' t → stk.length ≤ stk'.length + needM m → Q v H'
theorem kp2 {p ls : Addr} {H H' : Hp} (k : Kp [p] H H') : Kp [p, ls] H H' := fun x o h n => k x o h fun m => n (by rw [List.mem_singleton.mp m]; exact List.mem_cons_self)
theorem ls_keep {p ls : Addr} {H H' : Hp} {xs : List V} (k : Kp [p] H H') (h : H ls = some (.lst xs)) (n : ls ≠ p) : H' ls = some (.lst xs) := k.lst h (not1 n)
theorem no_mixed {P : Program} {w : World} {K : PySem.W.Frag} {mg : Str → Option Value} {base : Heap} {f : Addr} {fd : FuncData} {j : Nat} {ps : List Str} : FnOk P w K mg base CX0 j f fd ps (spMixed K 0) := by
  have no : ∀ vs H Q E, ¬ spMixed K 0 vs H Q E := fun vs H Q E h => by
    obtain ⟨_, _, _, _, _, _, h1, _⟩ := h
    omega
  exact ⟨fun vs H Q E h => absurd h (no vs H Q E), fun A outer s H args us vs Q E _ _ _ _ h => absurd h (no vs H Q E)⟩
theorem rn_take {s s' : List Str} {t : Lz.P} (hs : s.Nodup) (ho : ∀ x, x ∈ s → nmOk x) (h : Rn s s' t) : s'.Nodup ∧ ∀ x, x ∈ s' → nmOk x := by
  obtain ⟨X, e⟩ := h.pre
  refine ⟨?_, fun x m => ho x (h.sub m)⟩
  rw [e] at hs
  exact (List.nodup_append.mp hs).1
section
variable {P : Program} {w : World} {K : PySem.W.Frag} {mg : Str → Option Value} {base : Heap} {f : Addr} {fd : FuncData}
abbrev sLMixed : Stmt := topS 44
theorem scLMixed : FnScope ["_law_pen_here", "_law_deep", "_law_stock", "_law_kind", "_law_one", "_law_other", "_law_name"] ["_law_pen_here", "_law_deep", "_law_stock"] (defScope sLMixed) := ⟨rfl, rfl, rfl, by decide +kernel, rfl, by decide +kernel, by decide +kernel⟩
theorem ok_mixed {n j : Nat} (hj : 2 ≤ j) (F : Fun K "_law_mixed" "_law_mixed" sLMixed f fd) (B : Bt mg) (CLDraw : C8.Cal P w K mg base 1 "_law_draw" (spDraw K) []) (CLEnd : C8.Cal P w K mg base 2 "_law_end" (spEnd K) []) (CLMixed : C8.Cal P w K mg base j "_law_mixed" (spMixed K n) []) : FnOk P w K mg base CX0 (j + 1) f fd ["_law_pen_here", "_law_deep", "_law_stock"] (spMixed K (n + 1)) := by
  refine F.ok scLMixed (fun vs H Q E h => ?_) (fun cdv A outer s H vs Q E hr h => ?_)
  · obtain ⟨p, a, ls, m, stk, rfl, _⟩ := h
    rfl
  obtain ⟨p, a, ls, m, stk, rfl, hm, hn, pen0, hls, nlp, nla, hnd, hnm, hneed, q⟩ := h
  refine ⟨_, (pss_cons (ps_if (pt_cmpR op_eq (pv 1) pe_int (nomark _)) (pss_one (ps_ret (C8.pe_c CLEnd hr (by first | decide | omega) (by rfl) (pa_cons (pv 0) pa_nil)))) pss_nil)
    (pss_cons (ps_set (i := 3) scLMixed.nd rfl (.inl rfl) (pe_ix (ix_listK (K := K) rfl) (pe_lst (pa_cons pe_str (pa_cons pe_str (pa_cons pe_str (pa_cons pe_str (pa_cons pe_str (pa_cons pe_str (pa_cons pe_str (pa_cons pe_str (pa_cons pe_str (pa_cons pe_str pa_nil))))))))))) (C8.pe_c CLDraw hr (by first | decide | omega) (by rfl) (pa_cons (pv 0) (pa_cons pe_int pa_nil))) (fun _ _ => rfl)))
    (pss_cons (ps_set (i := 4) scLMixed.nd rfl (.inl rfl) (C8.pe_c CLMixed hr (by first | decide | omega) (by rfl) (pa_cons (pv 0) (pa_cons (pe_op op_sub (pv 1) pe_int) (pa_cons (pv 2) pa_nil)))))
    (pss_cons (ps_if (pt_cmpR (op_inK (K := K) rfl) (pv 3) (pe_tup (pa_cons pe_str (pa_cons pe_str pa_nil))) rfl) (pss_one (ps_ret (pe_tup (pa_cons (pv 3) (pa_cons (pv 4) pa_nil))))) pss_nil)
    (pss_cons (ps_set (i := 5) scLMixed.nd rfl (.inl rfl) (C8.pe_c CLMixed hr (by first | decide | omega) (by rfl) (pa_cons (pv 0) (pa_cons (pe_op op_sub (pv 1) pe_int) (pa_cons (pv 2) pa_nil)))))
    (pss_cons (ps_if (pt_cmpR op_eq (pv 3) pe_str (nomark _)) (pss_cons (ps_set (i := 6) scLMixed.nd rfl (.inl rfl) (pe_bm0K (K := K) rfl PySem.F.plainAttrs_list PySem.F.slot_list_pop PySem.F.type_list_pop mt_pop (pv 2)))
    (pss_one (ps_ret (pe_tup (pa_cons pe_str (pa_cons (pe_tup (pa_cons (pe_tup (pa_cons (pv 6) (pa_cons (pv 4) pa_nil))) pa_nil)) (pa_cons (pe_tup (pa_cons pe_str (pa_cons (pe_tup (pa_cons pe_str (pa_cons (pv 6) pa_nil))) (pa_cons (pv 5) pa_nil)))) pa_nil))))))) pss_nil)
    (pss_one (ps_ret (pe_ifExp (pt_cmpR op_eq (pv 3) pe_str (nomark _)) (pe_tup (pa_cons (pv 3) (pa_cons (pv 4) (pa_cons (pv 5) (pa_cons (C8.pe_c CLEnd hr (by first | decide | omega) (by rfl) (pa_cons (pv 0) pa_nil)) pa_nil))))) (pe_tup (pa_cons (pv 3) (pa_cons (pv 4) (pa_cons (pv 5) pa_nil))))))))))))), ?_⟩
  refine ⟨_, rfl, rfl, _, rfl, ?_⟩
  cases m with
  | zero =>
    refine ite2 (fun _ => ?_) (fun c => absurd (decide_eq_true (show V.int ((0 : Nat) : Int) = V.int 0 from rfl)) c)
    exact ⟨_, rfl, p, a, rfl, pen0, fun v t H' k pen d hb hr => q v t stk H' (kp2 k) pen (ls_keep k hls nlp) d (hb.mono (Nat.le_refl _) (Nat.le_refl _)) (.of_nil hr) (Nat.le_refl _)⟩
  | succ m =>
    refine ite2 (fun c => by have := V.int.inj (of_decide_eq_true c); omega) (fun _ => ?_)
    have esub : ((m + 1 : Nat) : Int) - 1 = ((m : Nat) : Int) := by omega
    have hne : 2 * needM m + 1 ≤ stk.length := hneed
    -- the kind
    refine ⟨(by show 10 ≤ sizeLine; decide), fun l hl => ?_⟩
    have hl1 : (upd H l (.lst [.str "give", .str "plus", .str "less", .str "times", .str "below", .str "when", .str "pair", .str "left", .str "right", .str "let"])) l = some (.lst [.str "give", .str "plus", .str "less", .str "times", .str "below", .str "when", .str "pair", .str "left", .str "right", .str "let"]) := upd_same
    have k1 : Kp [p] H (upd H l (.lst [.str "give", .str "plus", .str "less", .str "times", .str "below", .str "when", .str "pair", .str "left", .str "right", .str "let"])) := Kp.new hl
    have nlk := (pen0.apart hl).1
    have pen1 := pen0.new (o := .lst [.str "give", .str "plus", .str "less", .str "times", .str "below", .str "when", .str "pair", .str "left", .str "right", .str "let"]) hl
    have hls1 := ls_keep k1 hls nlp
    generalize upd H l (.lst [.str "give", .str "plus", .str "less", .str "times", .str "below", .str "when", .str "pair", .str "left", .str "right", .str "let"]) = H1 at hl1 k1 pen1 hls1 ⊢
    refine ⟨_, rfl, p, a, 10, rfl, pen1, (by decide), (by decide), fun g H2 k2 pen2 g0 g1 => ?_⟩
    have hl2 := k2.lst hl1 (not1 nlk)
    have hls2 := ls_keep k2 hls1 nlp
    have k2 := k1.trans k2
    obtain ⟨kd, hkd, hk⟩ : ∃ kd : Str, ([.str "give", .str "plus", .str "less", .str "times", .str "below", .str "when", .str "pair", .str "left", .str "right", .str "let"] : List V)[g.toNat]? = some (.str kd) ∧ (kd = "left" ∨ kd = "right" ∨ kd = "let" ∨ kd = "when" ∨ ((kd, 2) ∈ kinds ∧ kd ≠ "left" ∧ kd ≠ "right" ∧ kd ≠ "let" ∧ kd ≠ "when")) := by
      have h0 : g.toNat < 10 := by omega
      generalize g.toNat = i at h0
      match i, h0 with
      | 0, _ => exact ⟨_, rfl, .inr (.inr (.inr (.inr (by decide +kernel))))⟩
      | 1, _ => exact ⟨_, rfl, .inr (.inr (.inr (.inr (by decide +kernel))))⟩
      | 2, _ => exact ⟨_, rfl, .inr (.inr (.inr (.inr (by decide +kernel))))⟩
      | 3, _ => exact ⟨_, rfl, .inr (.inr (.inr (.inr (by decide +kernel))))⟩
      | 4, _ => exact ⟨_, rfl, .inr (.inr (.inr (.inr (by decide +kernel))))⟩
      | 5, _ => exact ⟨_, rfl, .inr (.inr (.inr (.inl rfl)))⟩
      | 6, _ => exact ⟨_, rfl, .inr (.inr (.inr (.inr (by decide +kernel))))⟩
      | 7, _ => exact ⟨_, rfl, .inl rfl⟩
      | 8, _ => exact ⟨_, rfl, .inr (.inl rfl)⟩
      | 9, _ => exact ⟨_, rfl, .inr (.inr (.inl rfl))⟩
      | n + 10, h => omega
    refine ⟨l, _, _, _, rfl, rfl, SqL.of hl2, at_of (j := g.toNat) (by omega) hkd, ?_⟩
    clear hl2 hl1 hkd
    refine ⟨_, rfl, _, rfl, _, _, rfl, rfl, _, rfl, p, a, ls, m, stk, (by show [V.ref p, V.int (((m + 1 : Nat) : Int) - 1), .ref ls] ++ [] = _; rw [esub]; rfl), by omega, by omega, pen2, hls2, nlp, nla, hnd, hnm, by omega, fun v1 t1 s1 H3 k3 pen3 hls3 d1 b1 rn1 le1 => ?_⟩
    have k3 := (kp2 (ls := ls) k2).trans k3
    clear pen2 hls2 k2 k1 hls1 pen1 nlk
    refine ⟨_, rfl, (by show 2 ≤ sizeLine; decide), fun T0 hT0 => ?_⟩
    have kt : Kp [p, ls] H3 (upd H3 T0 (.tup [.str "left", .str "right"])) := Kp.new hT0
    have h0 : SqT K (upd H3 T0 (.tup [.str "left", .str "right"])) T0 [.str "left", .str "right"] := SqT.of upd_same
    have d1 := Dp.keep kt _ _ (data_fz _) d1
    have hls4 : (upd H3 T0 (.tup [.str "left", .str "right"])) ls = some (.lst (s1.map V.str)) := by rw [upd_ne (ne_of_none hls3 hT0)]; exact hls3
    have pen4 := pen3.new (o := .tup [.str "left", .str "right"]) hT0
    have k4 := k3.trans kt
    generalize upd H3 T0 (.tup [.str "left", .str "right"]) = H4 at h0 d1 hls4 pen4 k4 ⊢
    refine ⟨T0, _, rfl, .inr h0, rfl, rfl, _, rfl, ?_⟩
    rw [in2U]
    clear h0
    by_cases hs : kd = "left" ∨ kd = "right"
    · refine ite2 (fun _ => ?_) (fun c => absurd (by simpa using hs) c)
      have hk1 : (kd, 1) ∈ kinds := by rcases hs with rfl | rfl <;> decide +kernel
      refine ⟨_, rfl, _, rfl, (by show 2 ≤ sizeLine; decide), fun T hT => ?_⟩
      exact q (.ref T) (.op kd [t1]) s1 _ (k4.trans (Kp.new hT)) (pen4.new hT) (by rw [upd_ne (ne_of_none hls4 hT)]; exact hls4) (Dp.newT hT (.cons (.str _) (.cons d1 .nil)) (by exact data_fz (Lz.P.op kd [t1]))) ((Mb.op1 hk1 b1).mono (by show manyM m + 1 ≤ 2 * manyM m + 9; omega) (by omega)) rn1.op1 (by show stk.length ≤ s1.length + (2 * needM m + 1); omega)
    refine ite2 (fun c => absurd (by simpa using c) hs) (fun _ => ?_)
    obtain ⟨hnd1, hnm1⟩ := rn_take hnd hnm rn1
    refine ⟨_, rfl, _, rfl, _, _, rfl, rfl, _, rfl, p, a, ls, m, s1, (by show [V.ref p, V.int (((m + 1 : Nat) : Int) - 1), .ref ls] ++ [] = _; rw [esub]; rfl), by omega, by omega, pen4, hls4, nlp, nla, hnd1, hnm1, by omega, fun v2 t2 s2 H5 k5 pen5 hls5 d2 b2 rn2 le2 => ?_⟩
    have d1 := Dp.keep k5 _ _ (data_fz _) d1
    have k5 := k4.trans k5
    clear k4 k3 kt pen4 pen3 hls4 hls3
    obtain ⟨hnd2, hnm2⟩ := rn_take hnd1 hnm1 rn2
    refine ⟨_, rfl, rfl, _, rfl, ?_⟩
    by_cases hlt : kd = "let"
    · refine ite2 (fun _ => ?_) (fun c => absurd (decide_eq_true (congrArg V.str hlt)) c)
      obtain ⟨s3, x, rfl⟩ : ∃ s3 x, s2 = s3 ++ [x] := by
        rcases List.eq_nil_or_concat s2 with e | ⟨s3, x, e⟩
        · rw [e] at le2; exact absurd (show s1.length ≤ 0 + needM m from le2) (by omega)
        · exact ⟨s3, x, by rw [e, List.concat_eq_append]⟩
      have e5 : (s3 ++ [x]).map V.str = s3.map V.str ++ [V.str x] := by rw [List.map_append]; rfl
      rw [e5] at hls5
      have hx : nmOk x := hnm2 x (List.mem_append_right _ List.mem_cons_self)
      refine ⟨_, rfl, .inl ⟨rfl, _, SqL.of hls5⟩, ls, _, .str x, rfl, rfl, hls5, ?_, ?_⟩
      · rw [List.length_append]
        show (s3.map V.str ++ [V.str x])[(s3.map V.str).length + 1 - 1]? = some (.str x)
        rw [Nat.add_sub_cancel, List.getElem?_append_right (Nat.le_refl _), Nat.sub_self]
        rfl
      rw [List.dropLast_concat]
      have kput : Kp [p, ls] H5 (upd H5 ls (.lst (s3.map V.str))) := Kp.put hls5 (List.mem_cons_of_mem _ List.mem_cons_self)
      have hls6 : (upd H5 ls (.lst (s3.map V.str))) ls = some (.lst (s3.map V.str)) := upd_same
      have d1 := Dp.keep kput _ _ (data_fz _) d1
      have d2 := Dp.keep kput _ _ (data_fz _) d2
      have pen6 : PenAt (upd H5 ls (.lst (s3.map V.str))) p a := pen5.mut nlp nla
      have k6 := k5.trans kput
      clear kput k5 pen5 hls5
      generalize upd H5 ls (.lst (s3.map V.str)) = H6 at hls6 d1 d2 pen6 k6 ⊢
      refine ⟨_, rfl, _, rfl, (by show 2 ≤ sizeLine; decide), fun T1 hT1 => ?_⟩
      have dT1 : Dp K (upd H6 T1 (.tup [.str x, v1])) (.ref T1) (rowD x t1.data) := Dp.newT hT1 (.cons (.str _) (.cons d1 .nil)) (by show (true && (fz _ && true)) = true; rw [data_fz]; rfl)
      have kk : Kp [p, ls] H6 (upd H6 T1 (.tup [.str x, v1])) := Kp.new hT1
      replace hls6 : (upd H6 T1 (.tup [.str x, v1])) ls = some (.lst (s3.map V.str)) := by rw [upd_ne (ne_of_none hls6 hT1)]; exact hls6
      replace d1 := Dp.keep kk _ _ (data_fz _) d1
      replace d2 := Dp.keep kk _ _ (data_fz _) d2
      replace pen6 := pen6.new (o := (.tup [.str x, v1])) hT1
      replace k6 := k6.trans kk
      clear kk
      generalize upd H6 T1 (.tup [.str x, v1]) = H7 at d1 d2 dT1 pen6 k6 hls6 ⊢
      refine ⟨(by show 1 ≤ sizeLine; decide), fun T2 hT2 => ?_⟩
      have dT2 : Dp K (upd H7 T2 (.tup [.ref T1])) (.ref T2) (.tuple (List.zipWith rowD [x] (Lz.P.datas [t1]))) := Dp.newT hT2 (.cons dT1 .nil) (by show ((true && (fz _ && true)) && true) = true; rw [data_fz]; rfl)
      have kk : Kp [p, ls] H7 (upd H7 T2 (.tup [.ref T1])) := Kp.new hT2
      replace hls6 : (upd H7 T2 (.tup [.ref T1])) ls = some (.lst (s3.map V.str)) := by rw [upd_ne (ne_of_none hls6 hT2)]; exact hls6
      replace d1 := Dp.keep kk _ _ (data_fz _) d1
      replace d2 := Dp.keep kk _ _ (data_fz _) d2
      replace dT1 := Dp.keep kk _ _ (by show (true && (fz _ && true)) = true; rw [data_fz]; rfl) dT1
      replace pen6 := pen6.new (o := (.tup [.ref T1])) hT2
      replace k6 := k6.trans kk
      clear kk
      generalize upd H7 T2 (.tup [.ref T1]) = H8 at d1 d2 dT1 dT2 pen6 k6 hls6 ⊢
      refine ⟨_, rfl, (by show 2 ≤ sizeLine; decide), fun T3 hT3 => ?_⟩
      have dT3 : Dp K (upd H8 T3 (.tup [.str "name", .str x])) (.ref T3) (Lz.P.nam x).data := Dp.newT hT3 (.cons (.str _) (.cons (.str _) .nil)) (by exact data_fz (Lz.P.nam x))
      have kk : Kp [p, ls] H8 (upd H8 T3 (.tup [.str "name", .str x])) := Kp.new hT3
      replace hls6 : (upd H8 T3 (.tup [.str "name", .str x])) ls = some (.lst (s3.map V.str)) := by rw [upd_ne (ne_of_none hls6 hT3)]; exact hls6
      replace d1 := Dp.keep kk _ _ (data_fz _) d1
      replace d2 := Dp.keep kk _ _ (data_fz _) d2
      replace dT1 := Dp.keep kk _ _ (by show (true && (fz _ && true)) = true; rw [data_fz]; rfl) dT1
      replace dT2 := Dp.keep kk _ _ (by show ((true && (fz _ && true)) && true) = true; rw [data_fz]; rfl) dT2
      replace pen6 := pen6.new (o := (.tup [.str "name", .str x])) hT3
      replace k6 := k6.trans kk
      clear kk
      generalize upd H8 T3 (.tup [.str "name", .str x]) = H9 at d1 d2 dT1 dT2 dT3 pen6 k6 hls6 ⊢
      refine ⟨_, rfl, (by show 3 ≤ sizeLine; decide), fun T4 hT4 => ?_⟩
      have dT4 : Dp K (upd H9 T4 (.tup [.str "plus", .ref T3, v2])) (.ref T4) (Lz.P.op "plus" [.nam x, t2]).data := Dp.newT hT4 (.cons (.str _) (.cons dT3 (.cons d2 .nil))) (by exact data_fz (Lz.P.op "plus" [.nam x, t2]))
      have kk : Kp [p, ls] H9 (upd H9 T4 (.tup [.str "plus", .ref T3, v2])) := Kp.new hT4
      replace hls6 : (upd H9 T4 (.tup [.str "plus", .ref T3, v2])) ls = some (.lst (s3.map V.str)) := by rw [upd_ne (ne_of_none hls6 hT4)]; exact hls6
      replace d1 := Dp.keep kk _ _ (data_fz _) d1
      replace d2 := Dp.keep kk _ _ (data_fz _) d2
      replace dT1 := Dp.keep kk _ _ (by show (true && (fz _ && true)) = true; rw [data_fz]; rfl) dT1
      replace dT2 := Dp.keep kk _ _ (by show ((true && (fz _ && true)) && true) = true; rw [data_fz]; rfl) dT2
      replace dT3 := Dp.keep kk _ _ (data_fz _) dT3
      replace pen6 := pen6.new (o := (.tup [.str "plus", .ref T3, v2])) hT4
      replace k6 := k6.trans kk
      clear kk
      generalize upd H9 T4 (.tup [.str "plus", .ref T3, v2]) = H10 at d1 d2 dT1 dT2 dT3 dT4 pen6 k6 hls6 ⊢
      refine ⟨(by show 3 ≤ sizeLine; decide), fun T hT => ?_⟩
      exact q (.ref T) (.lt [x] [t1] (.op "plus" [.nam x, t2])) s3 _ (k6.trans (Kp.new hT)) (pen6.new hT) (by rw [upd_ne (ne_of_none hls6 hT)]; exact hls6) (Dp.newT hT (.cons (.str _) (.cons dT2 (.cons dT4 .nil))) (by exact data_fz (Lz.P.lt [x] [t1] (.op "plus" [.nam x, t2])))) ((Mb.lett hx b1 b2).mono (by show manyM m + manyM m + 3 ≤ 2 * manyM m + 9; omega) (by omega)) (Rn.lett hnd rn1 rn2) (by rw [List.length_append] at le2; have : s1.length ≤ s3.length + 1 + needM m := le2; show stk.length ≤ s3.length + (2 * needM m + 1); omega)
    refine ite2 (fun c => absurd (V.str.inj (of_decide_eq_true c)) hlt) (fun _ => ?_)
    refine ⟨_, rfl, rfl, _, rfl, ?_⟩
    by_cases hw : kd = "when"
    · refine ite2 (fun _ => ?_) (fun c => absurd (decide_eq_true (congrArg V.str hw)) c)
      subst hw
      refine ⟨_, rfl, _, rfl, _, rfl, _, rfl, p, a, rfl, pen5, fun v3 t3 H6 k6 pen6 d3 hb hr => ?_⟩
      have d1 := Dp.keep k6 _ _ (data_fz _) d1
      have d2 := Dp.keep k6 _ _ (data_fz _) d2
      have hls6 := ls_keep k6 hls5 nlp
      refine ⟨(by show 4 ≤ sizeLine; decide), fun T hT => ?_⟩
      exact q (.ref T) (.op "when" [t1, t2, t3]) s2 _ ((k5.trans (kp2 k6)).trans (Kp.new hT)) (pen6.new hT) (by rw [upd_ne (ne_of_none hls6 hT)]; exact hls6) (Dp.newT hT (.cons (.str _) (.cons d1 (.cons d2 (.cons d3 .nil)))) (by exact data_fz (Lz.P.op "when" [t1, t2, t3]))) ((Mb.op3 (by decide +kernel) b1 b2 hb).mono (by show manyM m + manyM m + 8 + 1 ≤ 2 * manyM m + 9; omega) (by omega)) (Rn.op3 rn1 rn2 hr) (by show stk.length ≤ s2.length + (2 * needM m + 1); omega)
    refine ite2 (fun c => absurd (V.str.inj (of_decide_eq_true c)) hw) (fun _ => ?_)
    have hk2 : (kd, 2) ∈ kinds := by
      rcases hk with e | e | e | e | e
      · exact absurd (.inl e) hs
      · exact absurd (.inr e) hs
      · exact absurd e hlt
      · exact absurd e hw
      · exact e.1
    refine ⟨_, rfl, _, rfl, _, rfl, (by show 3 ≤ sizeLine; decide), fun T hT => ?_⟩
    exact q (.ref T) (.op kd [t1, t2]) s2 _ (k5.trans (Kp.new hT)) (pen5.new hT) (by rw [upd_ne (ne_of_none hls5 hT)]; exact hls5) (Dp.newT hT (.cons (.str _) (.cons d1 (.cons d2 .nil))) (by exact data_fz (Lz.P.op kd [t1, t2]))) ((Mb.op2 hk2 b1 b2).mono (by show manyM m + manyM m + 1 ≤ 2 * manyM m + 9; omega) (by omega)) (Rn.op2 rn1 rn2) (by show stk.length ≤ s2.length + (2 * needM m + 1); omega)
end
end Lz

set_option Elab.async false
set_option linter.all false
set_option autoImplicit false
set_option maxRecDepth 100000
set_option maxHeartbeats 4000000
/-! A function that calls itself deep within: what is asked of it comes to no pair. Plain Lean. -/
namespace Lz
open PySem PySem.Spec PyProof.Rows L2
theorem nodup_one {α : Type} (a : α) : [a].Nodup := by simp
/-- it comes to a number, if to a worth; functions called are f -/
inductive Nu (f : Str) : P → Prop
  | num {i : Int} : Nu f (.num i)
  | two {k : Str} {a b : P} : k ∈ fours → Nu f (.op k [a, b])
  | left {a b : P} : Nu f a → Nu f (.op "left" [.op "pair" [a, b]])
  | when {c a b : P} : Nu f a → Nu f b → Nu f (.op "when" [c, a, b])
  | give {x : P} : Nu f (.op "give" [.fn f, x])
  | shut {a : P} : Nu f a → Nu f (.op "shut" [a])
theorem put_op {th : List (Str × P)} {k : Str} {as : List P} (h : k ≠ "shut") : P.put th (.op k as) = .op k (P.puts th as) := by
  show P.op k (if k = "shut" then as else P.puts th as) = _
  rw [if_neg h]
theorem Nu.put {f : Str} {t : P} (th : List (Str × P)) (h : Nu f t) : Nu f (P.put th t) := by
  induction h with
  | num => exact .num
  | two k => rw [put_op (fours_not k).1]; exact .two k
  | left _ ih =>
    rw [put_op (by decide +kernel)]
    show Nu f (.op "left" [P.put th (.op "pair" _)])
    rw [put_op (by decide +kernel)]
    exact .left ih
  | when _ _ i1 i2 =>
    rw [put_op (by decide +kernel)]
    exact .when i1 i2
  | give =>
    rw [put_op (by decide +kernel)]
    exact .give
  | shut h _ =>
    show Nu f (.op "shut" (if ("shut" : Str) = "shut" then _ else _))
    rw [if_pos rfl]
    exact .shut h
section
variable {fs : List Fn} {d : P} {f x : Str} {b : P}
theorem wants_one (hfs : fs = [(f, [x], b)]) : wantsOf fs f = 1 := by
  have h : fs[0]? = some (f, [x], b) := by rw [hfs]; rfl
  exact wants_at (fs := fs) (by rw [hfs]; exact nodup_one _) h
theorem fn_wb (hfs : fs = [(f, [x], b)]) : wb fs (.fn f) = true := by
  rw [wb_eq (Spine.stop (by show ("fun" : Str) ≠ "give"; decide +kernel) : Spine (.fn f) 0 (.fn f)), worth_fn, wants_one hfs]
  rfl
theorem gv_one {t h : P} {a : P} {ts : List P} (g : Gv t h ts) (e : t = .op "give" [.fn f, a]) : h = .fn f ∧ ts = [a] := by
  cases g with
  | stop hn => rw [e] at hn; exact absurd rfl hn
  | give g2 =>
    injection e with _ e
    injection e with e1 e
    injection e with e2 _
    subst e1
    subst e2
    cases g2 with
    | stop _ => exact ⟨rfl, rfl⟩
theorem nu_step (hfs : fs = [(f, [x], b)]) (hb : Nu f b) {t : P} {o : Out} (h : StepR fs d t o) : Nu f t → ∀ w u, o = .s w u → Nu f u := by
  induction h with
  | fault _ _ => intro _ w u e; cases e
  | @here t v y hw hd =>
    intro n w u e
    cases e
    cases n with
    | num => rw [worth_num] at hw; cases hw
    | two k =>
      rcases due_two k hd with ⟨_, e⟩ | ⟨_, _, e⟩ | ⟨i, _, ⟨_, e⟩ | ⟨_, _, e⟩ | ⟨j, _, ⟨_, e⟩ | ⟨_, e⟩⟩⟩ <;> cases e
      exact .num
    | left a =>
      rcases due_side (.inl rfl) hd with ⟨_, e⟩ | ⟨_, _, e⟩ | ⟨x1, y1, e1, e⟩
      · cases e
      · cases e
      · injection e1 with _ e1
        injection e1 with e1 _
        injection e with _ e
        rw [e, if_pos rfl, ← e1]
        exact a
    | when a b =>
      rcases due_when hd with ⟨_, e⟩ | ⟨_, _, e⟩ | ⟨i, _, e⟩
      · cases e
      · cases e
      · injection e with _ e
        rw [e]
        by_cases h : i ≠ 0
        · rw [if_pos h]; exact a
        · rw [if_neg h]; exact b
    | give =>
      rcases due_give hd with ⟨_, e⟩ | ⟨_, _, e⟩ | ⟨_, _, _, ts, g, i, hg, hi, hl, e⟩
      · cases e
      · cases e
      · obtain ⟨_, e2⟩ := gv_one hg rfl
        injection e with _ e
        rw [e]
        refine Nu.put _ ?_
        rw [e2] at hl
        rw [hfs] at hi
        match i, hi with
        | 0, hi =>
          have hi := Option.some.inj (show some (f, [x], b) = some g from hi)
          rw [← hi]
          exact hb
        | 1, hi =>
          have hi := Option.some.inj (show some (askedFn d) = some g from hi)
          rw [← hi] at hl
          cases hl
        | i + 2, hi => cases (show (none : Option Fn) = some g from hi)
    | shut a =>
      cases hd with
      | shut => exact a
      | call c _ _ _ =>
        rcases c with e | ⟨_, _, e, _⟩
        · cases e
        · injection e with e; exact absurd e (by decide +kernel)
      | side h => rcases h with h | h <;> exact absurd h (by decide +kernel)
  | @inn k as a j o hw hd ha hs ih =>
    intro n w u e
    obtain ⟨v, rfl⟩ : ∃ v, u = .op k (as.set j v) := by
      cases o with
      | s y v => exact ⟨v, by injection e with _ e; exact e.symm⟩
      | f _ => cases e
      | w _ => cases e
      | inn _ => cases e
    cases n with
    | two hk =>
      match j, ha with
      | 0, _ => exact .two hk
      | 1, _ => exact .two hk
      | j + 2, ha => cases (show (none : Option P) = some a from ha)
    | left _ =>
      rcases due_side (.inl rfl) hd with ⟨h, _⟩ | ⟨_, _, e⟩ | ⟨_, _, _, e⟩
      · rw [worth_pair] at h; cases h
      · cases e
      · cases e
    | when h1 h2 =>
      rcases due_when hd with ⟨_, e⟩ | ⟨_, _, e⟩ | ⟨_, _, e⟩
      · injection e with e
        injection e with e
        rw [e]
        exact .when h1 h2
      · cases e
      · cases e
    | give =>
      rcases due_give hd with ⟨h, _⟩ | ⟨_, _, e⟩ | ⟨_, _, _, _, _, _, _, _, _, e⟩
      · rw [fn_wb hfs] at h; cases h
      · cases e
      · cases e
    | shut _ =>
      cases hd with
      | side1 h _ => rcases h with h | h <;> exact absurd h (by decide +kernel)
theorem nu_cm (hfs : fs = [(f, [x], b)]) (hb : Nu f b) {most n : Nat} {t : P} {ws : List Str} {r : Rs} (h : Cm fs d most n t ws r) : Nu f t → ∀ u, r = .w u → Nu f u := by
  induction h with
  | w _ => intro n u e; cases e; exact n
  | f _ => intro n u e; cases e
  | more _ _ => intro n u e; cases e
  | s hs _ _ ih => intro n u e; exact ih (nu_step hfs hb hs n _ _ rfl) u e
theorem nu_worth (hfs : fs = [(f, [x], b)]) {u : P} (hw : wb fs u = true) (n : Nu f u) : ∃ i, u = .num i := by
  have nop : ∀ {k : Str} {as : List P}, k ≠ "give" → k ≠ "pair" → k ≠ "number" → k ≠ "fun" → wb fs (.op k as) = true → False := fun h1 h2 h3 h4 h => by
    rw [wb_op h1 h2 h3 h4] at h; cases h
  cases n with
  | num => exact ⟨_, rfl⟩
  | two k => rw [four_wb k] at hw; cases hw
  | left _ => exact (nop (by decide +kernel) (by decide +kernel) (by decide +kernel) (by decide +kernel) hw).elim
  | when _ _ => exact (nop (by decide +kernel) (by decide +kernel) (by decide +kernel) (by decide +kernel) hw).elim
  | give =>
    rw [wb_eq (Spine.give (Spine.stop (by show ("fun" : Str) ≠ "give"; decide +kernel) : Spine (.fn f) 0 (.fn f))), worth_fn, wants_one hfs] at hw
    cases hw
  | shut _ => exact (nop (by decide +kernel) (by decide +kernel) (by decide +kernel) (by decide +kernel) hw).elim
theorem cm_wb {most n : Nat} {t : P} {ws : List Str} {r : Rs} (h : Cm fs d most n t ws r) : ∀ u, r = .w u → wb fs u = true := by
  induction h with
  | w h => intro u e; cases e; exact h
  | f _ => intro u e; cases e
  | more _ _ => intro u e; cases e
  | s _ _ _ ih => exact ih
/-- it is told alike at any depth -/
theorem nu_told (hfs : fs = [(f, [x], b)]) (hb : Nu f b) {most : Nat} {t : P} {ws : List Str} {r : Rs} {l : Fl} (h : Cm fs d most 0 t ws r) (hn : Nu f t) (hl : FlR r l) (n : Nat) : TdR fs d most n t (.fl l) := by
  refine .fl h hl (.inr ?_)
  intro e
  subst e
  cases hl with
  | @pair a c =>
    obtain ⟨i, e⟩ := nu_worth hfs (cm_wb h _ rfl) (nu_cm hfs hb h hn _ rfl)
    cases e
end
/-! ### what is asked may be another -/
theorem gv_okS2 {F : List Str} {t h : P} {ts : List P} (g : Gv t h ts) : t.okS F → h.okS F := by
  induction g with
  | stop _ => exact id
  | @give a b h ts _ ih => exact fun o => ih (show _ ∧ P.okS F a ∧ _ from o).2.1
section
variable {fs : List Fn} {d d2 : P}
theorem due_swap (hne : ¬ ("" : Str) ∈ fs.map (·.1)) {t : P} {o : Out} (h : Due fs d t o) (ho : t.okS (fs.map (·.1))) : Due fs d2 t o := by
  cases h with
  | shut => exact .shut
  | lett => exact .lett
  | @call t ts g i c hg hi hl =>
    refine .call (i := i) c hg ?_ hl
    unfold fnsOf at hi ⊢
    by_cases h : i < fs.length
    · rw [List.getElem?_append_left h] at hi ⊢
      exact hi
    · exfalso
      have hm : g ∈ [askedFn d] := by
        rw [List.getElem?_append_right (by omega)] at hi
        exact List.mem_of_getElem? hi
      rw [List.mem_singleton.mp hm] at hg
      exact hne (show nmOk ("" : Str) ∧ ("" : Str) ∈ fs.map (·.1) from gv_okS2 hg ho).2
  | giveIn h => exact .giveIn h
  | giveF h1 h2 => exact .giveF h1 h2
  | two1 h1 h2 => exact .two1 h1 h2
  | twoF1 h1 h2 h3 => exact .twoF1 h1 h2 h3
  | two2 h1 h2 => exact .two2 h1 h2
  | twoF2 h1 h2 h3 => exact .twoF2 h1 h2 h3
  | twoG h1 h2 => exact .twoG h1 h2
  | two h1 h2 => exact .two h1 h2
  | when1 h => exact .when1 h
  | whenF h1 h2 => exact .whenF h1 h2
  | when => exact .when
  | side1 h1 h2 => exact .side1 h1 h2
  | sideF h1 h2 h3 => exact .sideF h1 h2 h3
  | side h => exact .side h
theorem stepR_swap (hne : ¬ ("" : Str) ∈ fs.map (·.1)) {t : P} {o : Out} (h : StepR fs d t o) : t.okS (fs.map (·.1)) → StepR fs d2 t o := by
  induction h with
  | here hw hd => exact fun ho => .here hw (due_swap hne hd ho)
  | fault hw hd => exact fun ho => .fault hw (due_swap hne hd ho)
  | @inn k as a j o hw hd ha _ ih => exact fun ho => .inn hw (due_swap hne hd ho) ha (ih (okSs_iff.mp (show (k, as.length) ∈ kinds2 ∧ P.okSs (fs.map (·.1)) as from ho).2 a (List.mem_of_getElem? ha)))
theorem Cm.swap (hne : ¬ ("" : Str) ∈ fs.map (·.1)) (pr : Pr10 fs d 60 12) {most n : Nat} {t : P} {ws : List Str} {r : Rs} (h : Cm fs d most n t ws r) : Ok10 fs 60 12 t → Cm fs d2 most n t ws r := by
  induction h with
  | w h => exact fun _ => .w h
  | f h => exact fun ho => .f (stepR_swap hne h ho.ok)
  | more h hl => exact fun ho => .more (stepR_swap hne h ho.ok) hl
  | s h hl _ ih => exact fun ho => .s (stepR_swap hne h ho.ok) hl (ih (stepR_ok pr h rfl ho).1)
end
/-! ### the bounds -/
structure Bq (f x : Str) (M D : Nat) (t : P) : Prop where
  ok : t.ok
  many : t.many ≤ M
  deep : t.deep ≤ D
  fit : t.fit [f] [x]
  rn : t.rown = []
theorem Bq.mono {f x : Str} {M D M' D' : Nat} {t : P} (h : Bq f x M D t) (h1 : M ≤ M') (h2 : D ≤ D') : Bq f x M' D' t := ⟨h.ok, Nat.le_trans h.many h1, Nat.le_trans h.deep h2, h.fit, h.rn⟩
section
variable {f x : Str} {M D : Nat}
theorem Bq.num (i : Int) (h : i.natAbs < 10 ^ 60) : Bq f x 1 1 (.num i) := ⟨True.intro, Nat.le_refl _, Nat.le_refl _, h, rfl⟩
theorem Bq.nam (h : nmOk x) : Bq f x 1 1 (.nam x) := ⟨h, Nat.le_refl _, Nat.le_refl _, List.mem_singleton.mpr rfl, rfl⟩
theorem Bq.fn (h : nmOk f) : Bq f x 1 1 (.fn f) := ⟨h, Nat.le_refl _, Nat.le_refl _, List.mem_singleton.mpr rfl, rfl⟩
theorem Bq.op1 {k : Str} {a : P} {M1 : Nat} (hk : (k, 1) ∈ kinds) (h1 : Bq f x M1 D a) : Bq f x (M1 + 1) (D + 1) (.op k [a]) where
  ok := ⟨hk, h1.ok, True.intro⟩
  many := by
    have e : (P.op k [a]).many = 1 + (a.many + 0) := rfl
    have := h1.many
    omega
  deep := by
    have e : (P.op k [a]).deep = 1 + max a.deep 0 := rfl
    have := h1.deep
    omega
  fit := ⟨h1.fit, True.intro⟩
  rn := by
    show a.rown ++ [] = []
    rw [h1.rn]; rfl
theorem Bq.op2 {k : Str} {a b : P} {M1 M2 : Nat} (hk : (k, 2) ∈ kinds) (h1 : Bq f x M1 D a) (h2 : Bq f x M2 D b) : Bq f x (M1 + M2 + 1) (D + 1) (.op k [a, b]) where
  ok := ⟨hk, h1.ok, h2.ok, True.intro⟩
  many := by
    have e : (P.op k [a, b]).many = 1 + (a.many + (b.many + 0)) := rfl
    have := h1.many
    have := h2.many
    omega
  deep := by
    have e : (P.op k [a, b]).deep = 1 + max a.deep (max b.deep 0) := rfl
    have := h1.deep
    have := h2.deep
    omega
  fit := ⟨h1.fit, h2.fit, True.intro⟩
  rn := by
    show a.rown ++ (b.rown ++ []) = []
    rw [h1.rn, h2.rn]; rfl
theorem Bq.op3 {k : Str} {a b c : P} {M1 M2 M3 : Nat} (hk : (k, 3) ∈ kinds) (h1 : Bq f x M1 D a) (h2 : Bq f x M2 D b) (h3 : Bq f x M3 D c) : Bq f x (M1 + M2 + M3 + 1) (D + 1) (.op k [a, b, c]) where
  ok := ⟨hk, h1.ok, h2.ok, h3.ok, True.intro⟩
  many := by
    have e : (P.op k [a, b, c]).many = 1 + (a.many + (b.many + (c.many + 0))) := rfl
    have := h1.many
    have := h2.many
    have := h3.many
    omega
  deep := by
    have e : (P.op k [a, b, c]).deep = 1 + max a.deep (max b.deep (max c.deep 0)) := rfl
    have := h1.deep
    have := h2.deep
    have := h3.deep
    omega
  fit := ⟨h1.fit, h2.fit, h3.fit, True.intro⟩
  rn := by
    show a.rown ++ (b.rown ++ (c.rown ++ [])) = []
    rw [h1.rn, h2.rn, h3.rn]; rfl
end
theorem smallNu {i : Int} (h0 : 0 ≤ i) (h : i ≤ 100) : i.natAbs < 10 ^ 60 := by
  have h60 : (101 : Nat) ≤ 10 ^ 60 := by decide +kernel
  generalize (10 : Nat) ^ 60 = z at h60 ⊢
  omega
/-- so many layers around a part -/
inductive Wr : Nat → P → P → Prop
  | base {t : P} : Wr 0 t t
  | two1 {n : Nat} {t u : P} {k : Str} {i : Int} : (k = "plus" ∨ k = "less" ∨ k = "times") → 0 ≤ i → i ≤ 9 → Wr n t u → Wr (n + 1) t (.op k [.num i, u])
  | two2 {n : Nat} {t u : P} {k : Str} {i : Int} : (k = "plus" ∨ k = "less" ∨ k = "times") → 0 ≤ i → i ≤ 9 → Wr n t u → Wr (n + 1) t (.op k [u, .num i])
  | left {n : Nat} {t u : P} {i : Int} : 0 ≤ i → i ≤ 9 → Wr n t u → Wr (n + 1) t (.op "left" [.op "pair" [u, .num i]])
  | when {n : Nat} {t u : P} {i : Int} : 0 ≤ i → i ≤ 9 → Wr n t u → Wr (n + 1) t (.op "when" [.num 1, u, .num i])
theorem three_four {k : Str} (h : k = "plus" ∨ k = "less" ∨ k = "times") : k ∈ fours ∧ (k, 2) ∈ kinds := by
  rcases h with rfl | rfl | rfl <;> exact ⟨by decide +kernel, by decide +kernel⟩
theorem Wr.nu {f : Str} {n : Nat} {t u : P} (h : Wr n t u) : Nu f t → Nu f u := by
  induction h with
  | base => exact id
  | two1 k _ _ _ _ => exact fun _ => .two (three_four k).1
  | two2 k _ _ _ _ => exact fun _ => .two (three_four k).1
  | left _ _ _ ih => exact fun n => .left (ih n)
  | when _ _ _ ih => exact fun n => .when (ih n) .num
theorem Wr.bq {f x : Str} {n : Nat} {t u : P} (h : Wr n t u) : ∀ {M D : Nat}, 1 ≤ D → Bq f x M D t → Bq f x (M + 3 * n) (D + 2 * n) u := by
  induction h with
  | base => exact fun _ h => h
  | two1 k h0 h1 _ ih => exact fun hd h => (Bq.op2 (three_four k).2 ((Bq.num _ (smallNu h0 (by omega))).mono (Nat.le_refl _) (by omega)) (ih hd h)).mono (by omega) (by omega)
  | two2 k h0 h1 _ ih => exact fun hd h => (Bq.op2 (three_four k).2 (ih hd h) ((Bq.num _ (smallNu h0 (by omega))).mono (Nat.le_refl _) (by omega))).mono (by omega) (by omega)
  | left h0 h1 _ ih => exact fun hd h => (Bq.op1 (by decide +kernel) (Bq.op2 (by decide +kernel) (ih hd h) ((Bq.num _ (smallNu h0 (by omega))).mono (Nat.le_refl _) (by omega)))).mono (by omega) (by omega)
  | when h0 h1 _ ih => exact fun hd h => (Bq.op3 (by decide +kernel) ((Bq.num _ (smallNu (by decide) (by decide))).mono (Nat.le_refl _) (by omega)) (ih hd h) ((Bq.num _ (smallNu h0 (by omega))).mono (Nat.le_refl _) (by omega))).mono (by omega) (by omega)
/-- a program of one function -/
theorem one_fits {f x : Str} {b d : P} (hf : nmOk f) (hx : nmOk x) (hb : Bq f x 60 12 b) (hd : d.ok) (hm : d.many ≤ 60) (hdd : d.deep ≤ 12) (hdf : d.fit [f] []) (hdr : d.rown = []) : Fits [(f, [x], b)] d := by
  have key : ∀ g, g ∈ fnsOf [(f, [x], b)] d → g = (f, [x], b) ∨ g = askedFn d := fun g m => by
    rcases List.mem_append.mp m with m | m
    · exact .inl (List.mem_singleton.mp m)
    · exact .inr (List.mem_singleton.mp m)
  refine ⟨by show 1 ≤ 8; decide, fun g m => ?_, nodup_one _, fun g m => ?_, fun g m => ?_, fun g m => ?_, fun g m => ?_⟩
  · rw [List.mem_singleton.mp m]
    exact ⟨hf, fun y m => by rw [List.mem_singleton.mp m]; exact hx⟩
  · rcases key g m with e | e <;> rw [e]
    · show 1 ≤ 4; decide
    · show 0 ≤ 4; decide
  · rcases key g m with e | e <;> rw [e]
    · exact ⟨hb.ok, hb.many, hb.deep⟩
    · exact ⟨hd, hm, hdd⟩
  · rcases key g m with e | e <;> rw [e]
    · exact hb.fit
    · exact hdf
  · rcases key g m with e | e <;> rw [e]
    · show ([x] ++ b.rown).Nodup
      rw [hb.rn]
      exact nodup_one _
    · show ([] ++ d.rown).Nodup
      rw [hdr]
      exact List.nodup_nil
theorem Fits.prOk {fs : List Fn} {d : P} (h : Fits fs d) : PrOk fs d := ⟨h.len, by
    unfold fnsOf
    rw [List.map_append, List.nodup_append]
    refine ⟨h.nd, by simp, fun a ha b hb => ?_⟩
    obtain ⟨g, hg, rfl⟩ := List.mem_map.mp ha
    have hb' : b = "" := by simpa [askedFn] using hb
    rw [hb']
    intro e
    have := (h.nm g hg).1.1
    rw [e] at this
    exact absurd this (by decide +kernel), fun f m => ⟨h.bd f m, h.few f m⟩⟩
end Lz

set_option Elab.async false
set_option linter.all false
set_option maxRecDepth 100000
set_option maxHeartbeats 8000000
namespace Lz
open PySem PySem.Spec PyProof.Rows L2
def spLaw (K : PySem.W.Frag) : Sp := fun vs H Q _ => ∃ (s : Addr) (ns : List Int), vs = [.ref s] ∧ SqL K H s (ns.map V.int) ∧ ns.length ≤ 63 ∧ ∀ H', Q (.bl true) H'
/-- what the law's putting in comes to, told 0 deep -/
def flL : RL → Fl
  | .w (.num i) _ => .num i
  | .w (.pair _ _) _ => .pair
  | .w (.fn g l) _ => .fn g l.length
  | .f x => .f x
  | .more => .more
theorem Fl.dep (l : Fl) : l.data.depth ≤ 1 := by
  have key : ∀ ds : List PyData, (∀ d, d ∈ ds → d.depth ≤ 0) → (PyData.tuple ds).depth ≤ 1 := fun ds h => by
    rw [depth_tup]
    have := depthAll_le h
    omega
  have ds : ∀ x, (PyData.str x).depth ≤ 0 := fun x => by rw [depth_str]; exact Nat.le_refl _
  have di : ∀ i, (PyData.int i).depth ≤ 0 := fun i => by simp [PyData.depth]
  cases l with
  | num i => exact key _ fun d m => by rcases List.mem_cons.mp m with rfl | m; exact ds _; rw [List.mem_singleton.mp m]; exact di _
  | pair => exact key _ fun d m => by rw [List.mem_singleton.mp m]; exact ds _
  | fn g n => exact key _ fun d m => by rcases List.mem_cons.mp m with rfl | m; exact ds _; rcases List.mem_cons.mp m with rfl | m; exact ds _; rw [List.mem_singleton.mp m]; exact di _
  | f x => exact key _ fun d m => by rcases List.mem_cons.mp m with rfl | m; exact ds _; rw [List.mem_singleton.mp m]; exact ds _
  | more => exact key _ fun d m => by rw [List.mem_singleton.mp m]; exact ds _
/-- what both come to, told 0 deep -/
theorem rel_fl {fs : List Fn} {d : Lz.P} {most n : Nat} {c : Clo ⊕ Wt} {fr : List Fr} {S : Sto} {w0 ws ws' wf : List Str} {r : RL} {rs : Rs} (h : LR fs most n c fr S w0 r wf) (hr : Rel most ws ws' r rs wf) (h4 : ∀ (i : Nat) (g : Fn), fs[i]? = some g → g.2.1.length ≤ 4) : FlR rs (flL r) := by
  cases r with
  | f x =>
    cases rs with
    | f y => rw [show x = y from hr.1]; exact .f
    | w t => exact hr.elim
    | more => exact hr.elim
  | more =>
    cases rs with
    | more => exact .more
    | w t => exact hr.elim
    | f x => exact hr.elim
  | w w S' =>
    cases rs with
    | f x => exact hr.elim
    | more => exact hr.elim
    | w t =>
      obtain ⟨v, _, _⟩ := h.end rfl
      have e : t = mW S' w := hr.1
      cases w with
      | num i => rw [e]; exact .num
      | pair a b => rw [e]; exact .pair
      | fn g l =>
        obtain ⟨i, g0, hi, _, hl, _⟩ := (show WtOk fs S' (.fn g l) from v.fo)
        have := h4 i g0 hi
        have := FlR.fn (t := t) (ts := l.map (mC S')) (by rw [e]; exact gvs_gv g _) (by rw [List.length_map]; omega)
        rw [List.length_map] at this
        exact this
theorem resC.keep {K : PySem.W.Frag} {H0 H H' : Hp} {as : List Addr} {most : Nat} {v : V} {wf : List Str} {r : RL} (h : resC K H0 H as most v wf r) (k : Kp [] H H') : resC K H0 H' as most v wf r := by
  cases r with
  | w w S' =>
    obtain ⟨as', vw, lw, T, e, h1, h2, h3, h4, h5⟩ := h
    exact ⟨as', vw, lw, T, e, k.sqT h1, h2, k.lst h3 (fun m => nomatch m), WtV.keep0 h4 k (fun _ m => nomatch m), h5.keep k⟩
  | f x =>
    obtain ⟨lw, T, e, h1, h2, h3⟩ := h
    exact ⟨lw, T, e, k.sqT h1, h2, k.lst h3 (fun m => nomatch m)⟩
  | more =>
    obtain ⟨lw, T, e, h1, h2, h3⟩ := h
    exact ⟨lw, T, e, k.sqT h1, h2, k.lst h3 (fun m => nomatch m)⟩
theorem words_shaped {ws : List Str} (h : ∀ x, x ∈ ws → PyData.strOk x = true) : SeqAt.shaped (.list (ws.map PyData.str)) = true := by
  have e2 : (PyData.list (ws.map PyData.str)).canLay0 = PyData.canLayAll0 (ws.map PyData.str) := by rw [PyData.canLay0]
  have e3 : PyData.canLayAll0 (ws.map PyData.str) = true := layAll_iff.mpr fun d m => by
    obtain ⟨x, hx, rfl⟩ := List.mem_map.mp m
    rw [lay_str]
    exact h x hx
  have e1 : PyData.depthAll (ws.map PyData.str) ≤ 0 := depthAll_le fun d m => by
    obtain ⟨x, _, rfl⟩ := List.mem_map.mp m
    rw [depth_str]
    exact Nat.le_refl _
  unfold SeqAt.shaped
  rw [e2, e3, Bool.true_and]
  have : (PyData.list (ws.map PyData.str)).depth ≤ 1 := by
    simp only [PyData.depth]
    omega
  exact decide_eq_true (by omega)
theorem eqv_self {d : PyData} (h : SeqAt.shaped d = true) : PyData.eqv d d = true := by
  unfold SeqAt.shaped at h
  exact SeqAt.eqv_refl _ (Bool.and_eq_true_iff.mp h).1
theorem FlR.shaped {fs : List Fn} {r : Rs} {l : Fl} (h : FlR r l) (hx : ∀ x, r = .f x → PyData.strOk x = true) (hf : ∀ t g ts, r = .w t → Gv t (.fn g) ts → PyData.strOk g = true) : SeqAt.shaped l.data = true := by
  have hd := l.dep
  have hl : l.data.canLay0 = true := by
    cases h with
    | num =>
      show (PyData.tuple [.str "number", .int _]).canLay0 = true
      rw [lay_tup, lay_cons, lay_cons, lay_nil, lay_str]
      simp only [PyData.canLay0]
      decide +kernel
    | pair =>
      show (PyData.tuple [.str "pair"]).canLay0 = true
      rw [lay_tup, lay_cons, lay_nil, lay_str]
      decide +kernel
    | @fn g t ts hg _ =>
      show (PyData.tuple [.str "function", .str g, .int _]).canLay0 = true
      rw [lay_tup, lay_cons, lay_cons, lay_cons, lay_nil, lay_str, lay_str, hf _ _ _ rfl hg]
      simp only [PyData.canLay0]
      decide +kernel
    | f =>
      show (PyData.tuple [.str "fault", .str _]).canLay0 = true
      rw [lay_tup, lay_cons, lay_cons, lay_nil, lay_str, lay_str, hx _ rfl]
      decide +kernel
    | more =>
      show (PyData.tuple [.str "more"]).canLay0 = true
      rw [lay_tup, lay_cons, lay_nil, lay_str]
      decide +kernel
  unfold SeqAt.shaped
  rw [hl, Bool.true_and]
  exact decide_eq_true (by omega)
theorem gv_okS {F : List Str} {t h : Lz.P} {ts : List Lz.P} (g : Gv t h ts) : t.okS F → h.okS F := by
  induction g with
  | stop _ => exact id
  | @give a b h ts _ ih => exact fun o => ih (show _ ∧ Lz.P.okS F a ∧ _ from o).2.1
theorem FlR.shaped2 {fs : List Fn} {d t : Lz.P} {most n : Nat} {ws : List Str} {r : Rs} {l : Fl} (pr : Pr10 fs d 60 12) (hc : Cm fs d most n t ws r) (ho : Ok10 fs 60 12 t) (h : FlR r l) : SeqAt.shaped l.data = true := by
  obtain ⟨h1, h2⟩ := hc.fin pr ho
  refine FlR.shaped (fs := fs) h h2 fun u g ts e hg => ?_
  have h3 : nmOk g ∧ g ∈ fs.map (·.1) := gv_okS hg (h1 u e).2.1.ok
  exact h3.1.strOk
theorem s0_ok (F : List Str) : SOk F S0 := fun i E th e => by
  cases i with
  | zero => cases e; exact ⟨Par.nil _, Nat.zero_le _⟩
  | succ i => cases e
theorem s0_clo {fs : List Fn} {t : Lz.P} (ho : Ok10 fs 60 12 t) (hr : t.rown.Nodup) : CloOk (fs.map (·.1)) S0 (t, 0) := ⟨Nat.zero_lt_one, ⟨ho.ok, ⟨[], ho.cl, fun _ m => nomatch m⟩, hr, fun _ _ => rfl⟩⟩
theorem s0_pl : SPl S0 := fun i => by
  cases i with
  | zero => exact EPl.nil
  | succ i => exact EPl.nil
theorem s0_at {K : PySem.W.Frag} {H : Hp} {D : Addr} (h : H D = some (.dK [])) : StoAt K H [D] S0 := ⟨rfl, fun i E th a h1 h2 => by
  cases i with
  | zero => cases h1; cases h2; exact ⟨[], h, .nil⟩
  | succ i => cases h1⟩
theorem Fits.prPl {fs : List Fn} {d : Lz.P} (h : Fits fs d) : PrPl fs := fun i g hi => nsh_ok _ (h.bd g (List.mem_append_left _ (List.mem_of_getElem? hi))).ok
theorem tup_sh {ds : List PyData} (h1 : PyData.canLayAll0 ds = true) (h2 : PyData.depthAll ds ≤ 5) : SeqAt.shaped (.tuple ds) = true := by
  unfold SeqAt.shaped
  rw [show (PyData.tuple ds).canLay0 = true by rw [lay_tup]; exact h1, Bool.true_and]
  rw [depth_tup]
  exact decide_eq_true (by omega)
theorem words_dep (ws : List Str) : (PyData.list (ws.map PyData.str)).depth ≤ 1 := by
  have e1 : PyData.depthAll (ws.map PyData.str) ≤ 0 := depthAll_le fun d m => by
    obtain ⟨x, _, rfl⟩ := List.mem_map.mp m
    rw [depth_str]
    exact Nat.le_refl _
  simp only [PyData.depth]
  omega
theorem wf_f {most : Nat} {ws wf : List Str} {x : Str} {rs : Rs} (h : Rel most [] ws (.f x) rs wf) : wf = ws := by
  cases rs with
  | f y => exact h.2
  | w t => exact h.elim
  | more => exact h.elim
theorem wf_w {most : Nat} {ws wf : List Str} {w : Wt} {S : Sto} {rs : Rs} (h : Rel most [] ws (.w w S) rs wf) : wf = ws := by
  cases rs with
  | w t => exact h.2
  | f y => exact h.elim
  | more => exact h.elim
theorem wf_more {most : Nat} {ws wf : List Str} {rs : Rs} (h : Rel most [] ws .more rs wf) : wf.take most = ws := by
  cases rs with
  | more => exact h
  | f y => exact h.elim
  | w t => exact h.elim
section
variable {P : Program} {w : World} {K : PySem.W.Frag} {mg : Str → Option Value} {base : Heap} {f : Addr} {fd : FuncData}
abbrev sLaw : Stmt := topS 45
theorem scLaw : FnScope ["_law_script", "_law_pen_here", "_law_functions", "_law_turn", "_law_part", "_law_program", "_law_word", "_law_what", "_law_words", "_law_due"] ["_law_script"] (defScope sLaw) := ⟨rfl, rfl, rfl, by decide +kernel, rfl, by decide +kernel, by decide +kernel⟩
theorem ok_law (F : Fun K "law" "law" sLaw f fd) (B : Bt mg) (CLPen : C8.Cal P w K mg base 1 "_law_pen" (spPen K) []) (CLDraw : C8.Cal P w K mg base 1 "_law_draw" (spDraw K) []) (CLMixed : C8.Cal P w K mg base 5 "_law_mixed" (spMixed K 3) [])
    (CLCome : C8.Cal P w K mg base 3 "_law_come" (spLCome K) []) (CLed : C8.Cal P w K mg base 10 "led" (spLed K) []) : FnOk P w K mg base CX0 11 f fd ["_law_script"] (spLaw K) := by
  have ml := B.len
  have mmax := B.max
  have mmin := B.min
  have mrange := B.range
  refine F.ok scLaw (fun vs H Q E h => ?_) (fun cdv A outer s H vs Q E hr h => ?_)
  · obtain ⟨s0, ns, rfl, _⟩ := h
    rfl
  have hu64 := hr.units
  obtain ⟨s0, ns, rfl, hS, hlen, q⟩ := h
  refine ⟨_, (pss_cons (ps_set (i := 1) scLaw.nd rfl (.inl rfl) (C8.pe_c CLPen hr (by first | decide | omega) (by rfl) (pa_cons (pv 0) pa_nil)))
    (pss_cons (ps_set (i := 2) scLaw.nd rfl (.inl rfl) (pe_tup (pa_cons (pe_tup (pa_cons pe_str (pa_cons (pe_tup (pa_cons pe_str (pa_cons pe_str pa_nil))) (pa_cons (pe_tup (pa_cons pe_str (pa_cons (pe_tup (pa_cons pe_str (pa_cons pe_str pa_nil))) (pa_cons (pe_tup (pa_cons pe_str (pa_cons pe_str pa_nil))) pa_nil)))) pa_nil)))) (pa_cons (pe_tup (pa_cons pe_str (pa_cons (pe_tup pa_nil) (pa_cons (pe_tup (pa_cons pe_str (pa_cons pe_str pa_nil))) pa_nil)))) pa_nil))))
    (pss_cons (ps_for PassesOwn.never rfl (pi_range1 (by rfl) mrange (pa_cons (pe_callB (call_max2 rfl) (by rfl) mmax (by decide +kernel) (pa_cons pe_int (pa_cons (pe_callB (call_min2 rfl) (by rfl) mmin (by decide +kernel) (pa_cons pe_int (pa_cons (pe_callB (call_lenK (K := K) rfl) (by rfl) ml PySem.boot_len (pa_cons (pv 0) pa_nil)) pa_nil))) pa_nil))) pa_nil)) (pg_name (i := 3) scLaw.nd rfl (.inl rfl)) (pss_cons (ps_set (i := 4) scLaw.nd rfl (.inl rfl) (C8.pe_c CLMixed hr (by first | decide | omega) (by rfl) (pa_cons (pv 1) (pa_cons (pe_op op_add pe_int (C8.pe_c CLDraw hr (by first | decide | omega) (by rfl) (pa_cons (pv 1) (pa_cons pe_int pa_nil)))) (pa_cons (pe_lst (pa_cons pe_str (pa_cons pe_str (pa_cons pe_str pa_nil)))) pa_nil)))))
    (pss_cons (ps_set (i := 5) scLaw.nd rfl (.inl rfl) (pe_tup (pa_cons (pv 2) (pa_cons (pv 4) pa_nil))))
    (pss_cons (ps_asg (C8.pe_c CLCome hr (by first | decide | omega) (by rfl) (pa_cons (pv 5) (pa_cons (pe_tup (pa_cons (pv 4) (pa_cons pe_dnewK pa_nil))) (pa_cons pe_int pa_nil)))) (pg_tupK (K := K) (n := 3) rfl rfl (pgs_cons (pg_name (i := 6) scLaw.nd rfl (.inl rfl)) (pgs_cons (pg_name (i := 7) scLaw.nd rfl (.inl rfl)) (pgs_cons (pg_name (i := 8) scLaw.nd rfl (.inl rfl)) pgs_nil)))))
    (pss_cons (ps_set (i := 9) scLaw.nd rfl (.inl rfl) (pe_ifExp (pt_cmpR op_eq (pv 6) pe_str (nomark _)) (pe_tup (pa_cons (pv 6) pa_nil)) (pe_tup (pa_cons pe_str (pa_cons (pv 7) pa_nil)))))
    (pss_cons (ps_if (pt_cmpR op_eq (pv 6) pe_str (nomark _)) (pss_one (ps_set (i := 9) scLaw.nd rfl (.inl rfl) (pe_ifExp (pt_cmpR op_eq (pe_ix (ix_tupK (K := K) rfl) (pv 7) pe_int (fun _ _ => rfl)) pe_str (nomark _)) (pv 7) (pe_tup (pa_cons pe_str pa_nil))))) pss_nil)
    (pss_cons (ps_if (PW.pt (pw_and (pt_cmpR op_eq (pv 6) pe_str (nomark _)) (pw_and1 (pt_cmpR op_eq (pe_ix (ix_tupK (K := K) rfl) (pv 7) pe_int (fun _ _ => rfl)) pe_str (nomark _))))) (pss_one (ps_set (i := 9) scLaw.nd rfl (.inl rfl) (pe_tup (pa_cons pe_str (pa_cons (pe_ix (ix_tupK (K := K) rfl) (pv 7) pe_int (fun _ _ => rfl)) (pa_cons (pe_callB (call_lenK (K := K) rfl) (by rfl) ml PySem.boot_len (pa_cons (pe_ix (ix_tupK (K := K) rfl) (pv 7) pe_int (fun _ _ => rfl)) pa_nil)) pa_nil)))))) pss_nil)
    (pss_one (ps_if (pt_cmpR (op_neDK (K := K) rfl hu64) (C8.pe_c CLed hr (by first | decide | omega) (by rfl) (pa_cons (pv 5) (pa_cons (pv 4) (pa_cons pe_int pa_nil)))) (pe_tup (pa_cons (pv 9) (pa_cons (pv 8) pa_nil))) (nomark _)) (pss_one (ps_ret pe_bl)) pss_nil)))))))))
    (pss_one (ps_ret pe_bl))))), ?_⟩
  refine ⟨_, rfl, s0, ns, rfl, hS, hlen, fun p a H1 s1 hp ha pen1 => ?_⟩
  have kz : Kp [] H1 H1 := Kp.refl _ _
  have fF : fz (.tuple (fs2.map fD)) = true := fd_fz fs2
  refine ⟨(by show 2 ≤ sizeLine; decide), fun X1 hX1 => ?_⟩
  have dX1 : Dp K (upd H1 X1 (.tup [.str "a", .str "b"])) (.ref X1) (.tuple ((["a", "b"] : List Str).map .str)) := Dp.newT hX1 (.cons (.str _) (.cons (.str _) .nil)) rfl
  have kk : Kp [] H1 (upd H1 X1 (.tup [.str "a", .str "b"])) := Kp.new hX1
  replace pen1 := pen1.new (o := (.tup [.str "a", .str "b"])) hX1
  replace kz := kz.trans kk
  clear kk
  generalize upd H1 X1 (.tup [.str "a", .str "b"]) = H2 at dX1 pen1 kz ⊢
  refine ⟨(by show 2 ≤ sizeLine; decide), fun X2 hX2 => ?_⟩
  have dX2 : Dp K (upd H2 X2 (.tup [.str "name", .str "b"])) (.ref X2) (Lz.P.nam "b").data := Dp.newT hX2 (.cons (.str _) (.cons (.str _) .nil)) (by exact data_fz (Lz.P.nam "b"))
  have kk : Kp [] H2 (upd H2 X2 (.tup [.str "name", .str "b"])) := Kp.new hX2
  replace dX1 := Dp.keep kk _ _ rfl dX1
  replace pen1 := pen1.new (o := (.tup [.str "name", .str "b"])) hX2
  replace kz := kz.trans kk
  clear kk
  generalize upd H2 X2 (.tup [.str "name", .str "b"]) = H3 at dX1 dX2 pen1 kz ⊢
  refine ⟨(by show 2 ≤ sizeLine; decide), fun X3 hX3 => ?_⟩
  have dX3 : Dp K (upd H3 X3 (.tup [.str "name", .str "a"])) (.ref X3) (Lz.P.nam "a").data := Dp.newT hX3 (.cons (.str _) (.cons (.str _) .nil)) (by exact data_fz (Lz.P.nam "a"))
  have kk : Kp [] H3 (upd H3 X3 (.tup [.str "name", .str "a"])) := Kp.new hX3
  replace dX1 := Dp.keep kk _ _ rfl dX1
  replace dX2 := Dp.keep kk _ _ (data_fz _) dX2
  replace pen1 := pen1.new (o := (.tup [.str "name", .str "a"])) hX3
  replace kz := kz.trans kk
  clear kk
  generalize upd H3 X3 (.tup [.str "name", .str "a"]) = H4 at dX1 dX2 dX3 pen1 kz ⊢
  refine ⟨(by show 3 ≤ sizeLine; decide), fun X4 hX4 => ?_⟩
  have dX4 : Dp K (upd H4 X4 (.tup [.str "pair", .ref X2, .ref X3])) (.ref X4) (Lz.P.op "pair" [.nam "b", .nam "a"]).data := Dp.newT hX4 (.cons (.str _) (.cons dX2 (.cons dX3 .nil))) (by exact data_fz (Lz.P.op "pair" [.nam "b", .nam "a"]))
  have kk : Kp [] H4 (upd H4 X4 (.tup [.str "pair", .ref X2, .ref X3])) := Kp.new hX4
  replace dX1 := Dp.keep kk _ _ rfl dX1
  replace dX2 := Dp.keep kk _ _ (data_fz _) dX2
  replace dX3 := Dp.keep kk _ _ (data_fz _) dX3
  replace pen1 := pen1.new (o := (.tup [.str "pair", .ref X2, .ref X3])) hX4
  replace kz := kz.trans kk
  clear kk
  generalize upd H4 X4 (.tup [.str "pair", .ref X2, .ref X3]) = H5 at dX1 dX2 dX3 dX4 pen1 kz ⊢
  refine ⟨(by show 3 ≤ sizeLine; decide), fun X5 hX5 => ?_⟩
  have dX5 : Dp K (upd H5 X5 (.tup [.str "of", .ref X1, .ref X4])) (.ref X5) (fD ("of", ["a", "b"], .op "pair" [.nam "b", .nam "a"])) := Dp.newT hX5 (.cons (.str _) (.cons dX1 (.cons dX4 .nil))) (by decide +kernel)
  have kk : Kp [] H5 (upd H5 X5 (.tup [.str "of", .ref X1, .ref X4])) := Kp.new hX5
  replace dX1 := Dp.keep kk _ _ rfl dX1
  replace dX2 := Dp.keep kk _ _ (data_fz _) dX2
  replace dX3 := Dp.keep kk _ _ (data_fz _) dX3
  replace dX4 := Dp.keep kk _ _ (data_fz _) dX4
  replace pen1 := pen1.new (o := (.tup [.str "of", .ref X1, .ref X4])) hX5
  replace kz := kz.trans kk
  clear kk
  generalize upd H5 X5 (.tup [.str "of", .ref X1, .ref X4]) = H6 at dX1 dX2 dX3 dX4 dX5 pen1 kz ⊢
  refine ⟨(by show 0 ≤ sizeLine; decide), fun X6 hX6 => ?_⟩
  have dX6 : Dp K (upd H6 X6 (.tup [])) (.ref X6) (.tuple (([] : List Str).map .str)) := Dp.newT hX6 .nil rfl
  have kk : Kp [] H6 (upd H6 X6 (.tup [])) := Kp.new hX6
  replace dX1 := Dp.keep kk _ _ rfl dX1
  replace dX2 := Dp.keep kk _ _ (data_fz _) dX2
  replace dX3 := Dp.keep kk _ _ (data_fz _) dX3
  replace dX4 := Dp.keep kk _ _ (data_fz _) dX4
  replace dX5 := Dp.keep kk _ _ (by decide +kernel) dX5
  replace pen1 := pen1.new (o := (.tup [])) hX6
  replace kz := kz.trans kk
  clear kk
  generalize upd H6 X6 (.tup []) = H7 at dX1 dX2 dX3 dX4 dX5 dX6 pen1 kz ⊢
  refine ⟨(by show 2 ≤ sizeLine; decide), fun X7 hX7 => ?_⟩
  have dX7 : Dp K (upd H7 X7 (.tup [.str "fun", .str "on"])) (.ref X7) (Lz.P.fn "on").data := Dp.newT hX7 (.cons (.str _) (.cons (.str _) .nil)) (by exact data_fz (Lz.P.fn "on"))
  have kk : Kp [] H7 (upd H7 X7 (.tup [.str "fun", .str "on"])) := Kp.new hX7
  replace dX1 := Dp.keep kk _ _ rfl dX1
  replace dX2 := Dp.keep kk _ _ (data_fz _) dX2
  replace dX3 := Dp.keep kk _ _ (data_fz _) dX3
  replace dX4 := Dp.keep kk _ _ (data_fz _) dX4
  replace dX5 := Dp.keep kk _ _ (by decide +kernel) dX5
  replace dX6 := Dp.keep kk _ _ rfl dX6
  replace pen1 := pen1.new (o := (.tup [.str "fun", .str "on"])) hX7
  replace kz := kz.trans kk
  clear kk
  generalize upd H7 X7 (.tup [.str "fun", .str "on"]) = H8 at dX1 dX2 dX3 dX4 dX5 dX6 dX7 pen1 kz ⊢
  refine ⟨(by show 3 ≤ sizeLine; decide), fun X8 hX8 => ?_⟩
  have dX8 : Dp K (upd H8 X8 (.tup [.str "on", .ref X6, .ref X7])) (.ref X8) (fD ("on", [], .fn "on")) := Dp.newT hX8 (.cons (.str _) (.cons dX6 (.cons dX7 .nil))) (by decide +kernel)
  have kk : Kp [] H8 (upd H8 X8 (.tup [.str "on", .ref X6, .ref X7])) := Kp.new hX8
  replace dX1 := Dp.keep kk _ _ rfl dX1
  replace dX2 := Dp.keep kk _ _ (data_fz _) dX2
  replace dX3 := Dp.keep kk _ _ (data_fz _) dX3
  replace dX4 := Dp.keep kk _ _ (data_fz _) dX4
  replace dX5 := Dp.keep kk _ _ (by decide +kernel) dX5
  replace dX6 := Dp.keep kk _ _ rfl dX6
  replace dX7 := Dp.keep kk _ _ (data_fz _) dX7
  replace pen1 := pen1.new (o := (.tup [.str "on", .ref X6, .ref X7])) hX8
  replace kz := kz.trans kk
  clear kk
  generalize upd H8 X8 (.tup [.str "on", .ref X6, .ref X7]) = H9 at dX1 dX2 dX3 dX4 dX5 dX6 dX7 dX8 pen1 kz ⊢
  refine ⟨(by show 2 ≤ sizeLine; decide), fun X9 hX9 => ?_⟩
  have dX9 : Dp K (upd H9 X9 (.tup [.ref X5, .ref X8])) (.ref X9) (.tuple (fs2.map fD)) := Dp.newT hX9 (.cons dX5 (.cons dX8 .nil)) (fd_fz fs2)
  have kk : Kp [] H9 (upd H9 X9 (.tup [.ref X5, .ref X8])) := Kp.new hX9
  replace dX1 := Dp.keep kk _ _ rfl dX1
  replace dX2 := Dp.keep kk _ _ (data_fz _) dX2
  replace dX3 := Dp.keep kk _ _ (data_fz _) dX3
  replace dX4 := Dp.keep kk _ _ (data_fz _) dX4
  replace dX5 := Dp.keep kk _ _ (by decide +kernel) dX5
  replace dX6 := Dp.keep kk _ _ rfl dX6
  replace dX7 := Dp.keep kk _ _ (data_fz _) dX7
  replace dX8 := Dp.keep kk _ _ (by decide +kernel) dX8
  replace pen1 := pen1.new (o := (.tup [.ref X5, .ref X8])) hX9
  replace kz := kz.trans kk
  clear kk
  generalize upd H9 X9 (.tup [.ref X5, .ref X8]) = H10 at dX1 dX2 dX3 dX4 dX5 dX6 dX7 dX8 dX9 pen1 kz ⊢
  clear dX1 dX2 dX3 dX4 dX5 dX6 dX7 dX8
  have hS9 := kz.sqL (s1.seq hS) (fun m => nomatch m)
  refine ⟨_, rfl, s0, _, rfl, .inl hS9, _, _, rfl, _, _, rfl, _, rfl, ?_⟩
  have hml : (ns.map V.int).length ≤ 63 := by rw [List.length_map]; exact hlen
  generalize (ns.map V.int).length = nl at hml ⊢
  refine ⟨by split <;> split <;> omega, by split <;> split <;> omega, for_range (lo := 0) (fun i σ H' => ∃ (v3 v4 v5 v6 v7 v8 v9 : Option V), σ = [some (.ref s0), some (.ref p), some (.ref X9), v3, v4, v5, v6, v7, v8, v9] ∧ PenAt H' p a ∧ Dp K H' (.ref X9) (.tuple (fs2.map fD)))
      ⟨none, none, none, none, none, none, none, rfl, pen1, dX9⟩ ?_ ?_⟩
  · rintro i σ H20 hi ⟨v3, v4, v5, v6, v7, v8, v9, rfl, pen20, dX9⟩
    refine ⟨_, rfl, _, rfl, p, a, 2, rfl, pen20, (by decide), (by decide), fun r0 H21 k21 pen21 r00 r01 => ?_⟩
    refine ⟨_, _, rfl, rfl, (by show 3 ≤ sizeLine; decide), fun ls hls => ?_⟩
    have hl22 : (upd H21 ls (.lst [.str "u", .str "v", .str "w"])) ls = some (.lst ((["u", "v", "w"] : List Str).map V.str)) := upd_same
    have pen22 := pen21.new (o := .lst [.str "u", .str "v", .str "w"]) hls
    obtain ⟨nlp, nla⟩ := pen21.apart hls
    have dX22 := Dp.keep (k21.trans (Kp.new (o := .lst [.str "u", .str "v", .str "w"]) hls)) _ _ fF dX9
    generalize upd H21 ls (.lst [.str "u", .str "v", .str "w"]) = H22 at hl22 pen22 dX22 ⊢
    obtain ⟨m, hm, hm12⟩ : ∃ m : Nat, (1 : Int) + r0 = (m : Nat) ∧ (m = 1 ∨ m = 2) := ⟨(1 + r0).toNat, by omega, by omega⟩
    refine ⟨p, a, ls, m, ["u", "v", "w"], (by show [V.ref p, V.int (1 + r0), .ref ls] ++ [] = _; rw [hm]; rfl), by omega, Nat.le_refl _, pen22, hl22, nlp, nla, by decide +kernel, fun x m => ?_, by rcases hm12 with rfl | rfl <;> decide, fun vt t stk' H23 k23 pen23 _ hdt hb hrn _ => ?_⟩
    · have hn : nmOk ("u" : Str) ∧ nmOk ("v" : Str) ∧ nmOk ("w" : Str) := by unfold nmOk; decide +kernel
      rcases List.mem_cons.mp m with e | m
      · rw [e]; exact hn.1
      · rcases List.mem_cons.mp m with e | m
        · rw [e]; exact hn.2.1
        · rw [List.mem_singleton.mp m]; exact hn.2.2
    have hb60 : Mb 60 12 t := by rcases hm12 with rfl | rfl <;> exact hb.mono (by decide) (by decide)
    have dX23 := Dp.keep k23 _ _ fF dX22
    have hfit : Fits fs2 t := fits2 hb60 hrn.nd
    clear hb hrn hm hl22 pen22 dX22
    have hpt := hfit.pr10
    have hps : PrS fs2 t := hfit.prS hfit.prOk
    have hpc := hfit.prC
    have hpp := hfit.prPl
    have hrow := Row0.asked hfit
    obtain ⟨n, r, wf, ws, rs', hlr, hcm, hrel⟩ := start (d := t) (most := 24) hpt hfit.nd hpc hrow.ok hrow.rn (by have := hrow.dp; omega) (by decide)
    have hfl := rel_fl (d := t) hlr hrel (fun i g h => (hpc i g h).2.2.2)
    have hsh := FlR.shaped2 hpt hcm hrow.ok hfl
    have hwsh := words_shaped hcm.words
    have hldep := (flL r).dep
    have hwd := words_dep ws
    have hsh2 : SeqAt.shaped (.tuple [(flL r).data, .list (ws.map PyData.str)]) = true := tup_sh (by rw [lay_cons, lay_cons, lay_nil, (Bool.and_eq_true_iff.mp hsh).1, (Bool.and_eq_true_iff.mp hwsh).1]; rfl) (depthAll_le fun d m => by rcases List.mem_cons.mp m with e | m; rw [e]; omega; rw [List.mem_singleton.mp m]; omega)
    refine ⟨_, rfl, _, rfl, (by show 2 ≤ sizeLine; decide), fun pr hpr => ?_⟩
    have dP : Dp K (upd H23 pr (.tup [.ref X9, vt])) (.ref pr) (progD fs2 t) := Dp.newT hpr (.cons dX23 (.cons hdt .nil)) (by show (fzAll _ && (fz _ && true)) = true; rw [fd_fz, data_fz]; rfl)
    have kk : Kp [] H23 (upd H23 pr (.tup [.ref X9, vt])) := Kp.new hpr
    have dX24 := Dp.keep kk _ _ fF dX23
    have hdt24 := Dp.keep kk _ _ (data_fz _) hdt
    have pen24 := pen23.new (o := .tup [.ref X9, vt]) hpr
    clear kk
    generalize upd H23 pr (.tup [.ref X9, vt]) = H24 at dP dX24 hdt24 pen24 ⊢
    refine ⟨_, rfl, _, rfl, fun D hD => ?_⟩
    have k25 : Kp [] H24 (upd H24 D (.dK [])) := Kp.new hD
    have hD25 : (upd H24 D (.dK [])) D = some (.dK []) := upd_same
    generalize upd H24 D (.dK []) = H25 at k25 hD25 ⊢
    refine ⟨(by show 2 ≤ sizeLine; decide), fun T hT => ?_⟩
    have kt : Kp [] H25 (upd H25 T (.tup [vt, .ref D])) := Kp.new hT
    have hT26 : (upd H25 T (.tup [vt, .ref D])) T = some (.tup [vt, .ref D]) := upd_same
    have hD26 := kt _ _ hD25 (fun m => nomatch m)
    have k26 := k25.trans kt
    generalize upd H25 T (.tup [vt, .ref D]) = H26 at hT26 hD26 k26 ⊢
    have hdt26 := Dp.keep k26 _ _ (data_fz _) hdt24
    refine ⟨.ref pr, .ref T, 24, n, fs2, t, (t, 0), [D], S0, r, wf, rfl, (by decide), Dp.keep k26 _ _ (progU_fz _ _) dP, hps, hpc, hpp, s0_pl, nsh_ok _ hb60.ok, s0_at hD26, ⟨T, vt, D, rfl, SqT.of hT26, hdt26, rfl⟩, hlr, fun vc H27 k27 hres => ?_⟩
    have k27 := k26.trans k27
    clear k25 kt hT26 hD26 k26 hdt26 hD25
    cases r with
    | f x =>
      obtain ⟨lw, T, rfl, hT, _, hlw⟩ := hres
      rw [wf_f hrel] at hlw
      refine ⟨T, _, rfl, hT, rfl, _, _, rfl, _, _, rfl, _, _, rfl, rfl, ?_⟩
      refine ⟨_, rfl, rfl, _, rfl, ?_⟩
      refine ite2 (fun c => absurd (V.str.inj (of_decide_eq_true c)) (by decide +kernel)) (fun _ => ?_)
      refine ⟨_, rfl, (by show 2 ≤ sizeLine; decide), fun T2 hT2 => ?_⟩
      have dD : Dp K (upd H27 T2 (.tup [.str "fault", .str x])) (.ref T2) (flL (.f x)).data := Dp.newT hT2 (.cons (.str _) (.cons (.str _) .nil)) rfl
      have kT : Kp [] H27 (upd H27 T2 (.tup [.str "fault", .str x])) := Kp.new hT2
      have kF := k27.trans kT
      have hlwF := kT.lst hlw (fun m => nomatch m)
      generalize upd H27 T2 (.tup [.str "fault", .str x]) = HF at dD kF hlwF ⊢
      refine ⟨_, rfl, rfl, _, rfl, ?_⟩
      refine ite2 (fun c => absurd (V.str.inj (of_decide_eq_true c)) (by decide +kernel)) (fun _ => ?_)
      refine ⟨_, rfl, rfl, _, rfl, ?_⟩
      refine ite2 (fun c => absurd (V.str.inj (of_decide_eq_true c)) (by decide +kernel)) (fun _ => ?_)
      have dPF := Dp.keep kF _ _ (progU_fz _ _) dP
      have dtF := Dp.keep kF _ _ (data_fz _) hdt24
      refine ⟨_, rfl, _, rfl, .ref pr, vt, 24, fs2, t, t, ws, _, _, rfl, (by decide), dPF, hps, hpt, dtF, hrow.ok, hcm, hfl, (by have := hrow.mw; omega), (by have := hrow.dp; omega), fun pf vf lf HG kG hlfN hpf hvf hlf => ?_⟩
      refine ⟨_, rfl, _, rfl, (by show 2 ≤ sizeLine; decide), fun T3 hT3 => ?_⟩
      have kH : Kp [] HG (upd HG T3 (.tup [.ref T2, .ref lw])) := Kp.new hT3
      have dT3 : Dp K (upd HG T3 (.tup [.ref T2, .ref lw])) (.ref T3) (.tuple [(flL _).data, .list (ws.map PyData.str)]) := .tup (SqT.of upd_same) (.cons (Dp.keep kH _ _ (Fl.fz _) (Dp.keep kG _ _ (Fl.fz _) dD)) (.cons (.lst (SqL.of (kH.lst (kG.lst hlwF (fun m => nomatch m)) (fun m => nomatch m))) (DpAll.strs _)) .nil))
      refine ⟨_, _, .tup (kH.sqT hpf) (.cons (Dp.keep kH _ _ (Fl.fz _) hvf) (.cons (.lst (SqL.of (kH.lst hlf (fun m => nomatch m))) (DpAll.strs _)) .nil)), dT3, hsh2, hsh2, _, rfl, ?_⟩
      rw [eqv_self hsh2]
      refine ite2 (fun c => absurd c (by simp)) (fun _ => ?_)
      have kE := kF.trans (kG.trans kH)
      exact ⟨_, _, _, _, _, _, _, rfl, pen24.keep kE (fun m => nomatch m) (fun m => nomatch m), Dp.keep kE _ _ fF dX24⟩
    | more =>
      obtain ⟨lw, T, rfl, hT, _, hlw⟩ := hres
      rw [wf_more hrel] at hlw
      refine ⟨T, _, rfl, hT, rfl, _, _, rfl, _, _, rfl, _, _, rfl, rfl, ?_⟩
      refine ⟨_, rfl, rfl, _, rfl, ?_⟩
      refine ite2 (fun _ => ?_) (fun c => absurd (decide_eq_true rfl) c)
      refine ⟨_, rfl, (by show 1 ≤ sizeLine; decide), fun T2 hT2 => ?_⟩
      have dD : Dp K (upd H27 T2 (.tup [.str "more"])) (.ref T2) (flL .more).data := Dp.newT hT2 (.cons (.str _) .nil) rfl
      have kT : Kp [] H27 (upd H27 T2 (.tup [.str "more"])) := Kp.new hT2
      have kF := k27.trans kT
      have hlwF := kT.lst hlw (fun m => nomatch m)
      generalize upd H27 T2 (.tup [.str "more"]) = HF at dD kF hlwF ⊢
      refine ⟨_, rfl, rfl, _, rfl, ?_⟩
      refine ite2 (fun c => absurd (V.str.inj (of_decide_eq_true c)) (by decide +kernel)) (fun _ => ?_)
      refine ⟨_, rfl, rfl, _, rfl, ?_⟩
      refine ite2 (fun c => absurd (V.str.inj (of_decide_eq_true c)) (by decide +kernel)) (fun _ => ?_)
      have dPF := Dp.keep kF _ _ (progU_fz _ _) dP
      have dtF := Dp.keep kF _ _ (data_fz _) hdt24
      refine ⟨_, rfl, _, rfl, .ref pr, vt, 24, fs2, t, t, ws, _, _, rfl, (by decide), dPF, hps, hpt, dtF, hrow.ok, hcm, hfl, (by have := hrow.mw; omega), (by have := hrow.dp; omega), fun pf vf lf HG kG hlfN hpf hvf hlf => ?_⟩
      refine ⟨_, rfl, _, rfl, (by show 2 ≤ sizeLine; decide), fun T3 hT3 => ?_⟩
      have kH : Kp [] HG (upd HG T3 (.tup [.ref T2, .ref lw])) := Kp.new hT3
      have dT3 : Dp K (upd HG T3 (.tup [.ref T2, .ref lw])) (.ref T3) (.tuple [(flL _).data, .list (ws.map PyData.str)]) := .tup (SqT.of upd_same) (.cons (Dp.keep kH _ _ (Fl.fz _) (Dp.keep kG _ _ (Fl.fz _) dD)) (.cons (.lst (SqL.of (kH.lst (kG.lst hlwF (fun m => nomatch m)) (fun m => nomatch m))) (DpAll.strs _)) .nil))
      refine ⟨_, _, .tup (kH.sqT hpf) (.cons (Dp.keep kH _ _ (Fl.fz _) hvf) (.cons (.lst (SqL.of (kH.lst hlf (fun m => nomatch m))) (DpAll.strs _)) .nil)), dT3, hsh2, hsh2, _, rfl, ?_⟩
      rw [eqv_self hsh2]
      refine ite2 (fun c => absurd c (by simp)) (fun _ => ?_)
      have kE := kF.trans (kG.trans kH)
      exact ⟨_, _, _, _, _, _, _, rfl, pen24.keep kE (fun m => nomatch m) (fun m => nomatch m), Dp.keep kE _ _ fF dX24⟩
    | w wt S' =>
      obtain ⟨as', vw, lw, T, rfl, hT, _, hlw, hw, _⟩ := hres
      rw [wf_w hrel] at hlw
      cases wt with
      | num i =>
        obtain ⟨Tw, rfl, hTw⟩ := hw
        refine ⟨T, _, rfl, hT, rfl, _, _, rfl, _, _, rfl, _, _, rfl, rfl, ?_⟩
        refine ⟨_, rfl, rfl, _, rfl, ?_⟩
        refine ite2 (fun c => absurd (V.str.inj (of_decide_eq_true c)) (by decide +kernel)) (fun _ => ?_)
        refine ⟨_, rfl, (by show 2 ≤ sizeLine; decide), fun T2 hT2 => ?_⟩
        have kT : Kp [] H27 (upd H27 T2 (.tup [.str "fault", .ref Tw])) := Kp.new hT2
        have kF := k27.trans kT
        have hlwF := kT.lst hlw (fun m => nomatch m)
        have hTw := kT.sqT hTw
        generalize upd H27 T2 (.tup [.str "fault", .ref Tw]) = HF at kF hlwF hTw ⊢
        refine ⟨_, rfl, rfl, _, rfl, ?_⟩
        refine ite2 (fun _ => ?_) (fun c => absurd (decide_eq_true rfl) c)
        refine ⟨_, rfl, Tw, _, _, _, rfl, rfl, hTw, at_of (j := 0) rfl rfl, rfl, _, rfl, ?_⟩
        refine ite2 (fun _ => ?_) (fun c => absurd (decide_eq_true rfl) c)
        refine ⟨_, rfl, ?_⟩
        have dD : Dp K HF (.ref Tw) (flL (.w (.num i) S')).data := .tup hTw (.cons (.str _) (.cons (.int _) .nil))
        refine ⟨_, rfl, rfl, _, rfl, ?_⟩
        refine ite2 (fun _ => ?_) (fun c => absurd (decide_eq_true rfl) c)
        refine ⟨_, rfl, Tw, _, _, _, rfl, rfl, hTw, at_of (j := 0) rfl rfl, rfl, _, rfl, ?_⟩
        refine ite2 (fun c => absurd (V.str.inj (of_decide_eq_true c)) (by decide +kernel)) (fun _ => ?_)
        have dPF := Dp.keep kF _ _ (progU_fz _ _) dP
        have dtF := Dp.keep kF _ _ (data_fz _) hdt24
        refine ⟨_, rfl, _, rfl, .ref pr, vt, 24, fs2, t, t, ws, _, _, rfl, (by decide), dPF, hps, hpt, dtF, hrow.ok, hcm, hfl, (by have := hrow.mw; omega), (by have := hrow.dp; omega), fun pf vf lf HG kG hlfN hpf hvf hlf => ?_⟩
        refine ⟨_, rfl, _, rfl, (by show 2 ≤ sizeLine; decide), fun T3 hT3 => ?_⟩
        have kH : Kp [] HG (upd HG T3 (.tup [.ref Tw, .ref lw])) := Kp.new hT3
        have dT3 : Dp K (upd HG T3 (.tup [.ref Tw, .ref lw])) (.ref T3) (.tuple [(flL _).data, .list (ws.map PyData.str)]) := .tup (SqT.of upd_same) (.cons (Dp.keep kH _ _ (Fl.fz _) (Dp.keep kG _ _ (Fl.fz _) dD)) (.cons (.lst (SqL.of (kH.lst (kG.lst hlwF (fun m => nomatch m)) (fun m => nomatch m))) (DpAll.strs _)) .nil))
        refine ⟨_, _, .tup (kH.sqT hpf) (.cons (Dp.keep kH _ _ (Fl.fz _) hvf) (.cons (.lst (SqL.of (kH.lst hlf (fun m => nomatch m))) (DpAll.strs _)) .nil)), dT3, hsh2, hsh2, _, rfl, ?_⟩
        rw [eqv_self hsh2]
        refine ite2 (fun c => absurd c (by simp)) (fun _ => ?_)
        have kE := kF.trans (kG.trans kH)
        exact ⟨_, _, _, _, _, _, _, rfl, pen24.keep kE (fun m => nomatch m) (fun m => nomatch m), Dp.keep kE _ _ fF dX24⟩
      | pair x y =>
        obtain ⟨Tw, va, vb, rfl, hTw, _, _⟩ := hw
        refine ⟨T, _, rfl, hT, rfl, _, _, rfl, _, _, rfl, _, _, rfl, rfl, ?_⟩
        refine ⟨_, rfl, rfl, _, rfl, ?_⟩
        refine ite2 (fun c => absurd (V.str.inj (of_decide_eq_true c)) (by decide +kernel)) (fun _ => ?_)
        refine ⟨_, rfl, (by show 2 ≤ sizeLine; decide), fun T2 hT2 => ?_⟩
        have kT : Kp [] H27 (upd H27 T2 (.tup [.str "fault", .ref Tw])) := Kp.new hT2
        have kF := k27.trans kT
        have hlwF := kT.lst hlw (fun m => nomatch m)
        have hTw := kT.sqT hTw
        generalize upd H27 T2 (.tup [.str "fault", .ref Tw]) = HE at kF hlwF hTw ⊢
        refine ⟨_, rfl, rfl, _, rfl, ?_⟩
        refine ite2 (fun _ => ?_) (fun c => absurd (decide_eq_true rfl) c)
        refine ⟨_, rfl, Tw, _, _, _, rfl, rfl, hTw, at_of (j := 0) rfl rfl, rfl, _, rfl, ?_⟩
        refine ite2 (fun c => absurd (V.str.inj (of_decide_eq_true c)) (by decide +kernel)) (fun _ => ?_)
        refine ⟨(by show 1 ≤ sizeLine; decide), fun T4 hT4 => ?_⟩
        have dD : Dp K (upd HE T4 (.tup [.str "pair"])) (.ref T4) (flL (.w (.pair x y) S')).data := Dp.newT hT4 (.cons (.str _) .nil) rfl
        have kT4 : Kp [] HE (upd HE T4 (.tup [.str "pair"])) := Kp.new hT4
        have kF := kF.trans kT4
        have hlwF := kT4.lst hlwF (fun m => nomatch m)
        have hTw := kT4.sqT hTw
        generalize upd HE T4 (.tup [.str "pair"]) = HF at dD kF hlwF hTw ⊢
        refine ⟨_, rfl, rfl, _, rfl, ?_⟩
        refine ite2 (fun _ => ?_) (fun c => absurd (decide_eq_true rfl) c)
        refine ⟨_, rfl, Tw, _, _, _, rfl, rfl, hTw, at_of (j := 0) rfl rfl, rfl, _, rfl, ?_⟩
        refine ite2 (fun c => absurd (V.str.inj (of_decide_eq_true c)) (by decide +kernel)) (fun _ => ?_)
        have dPF := Dp.keep kF _ _ (progU_fz _ _) dP
        have dtF := Dp.keep kF _ _ (data_fz _) hdt24
        refine ⟨_, rfl, _, rfl, .ref pr, vt, 24, fs2, t, t, ws, _, _, rfl, (by decide), dPF, hps, hpt, dtF, hrow.ok, hcm, hfl, (by have := hrow.mw; omega), (by have := hrow.dp; omega), fun pf vf lf HG kG hlfN hpf hvf hlf => ?_⟩
        refine ⟨_, rfl, _, rfl, (by show 2 ≤ sizeLine; decide), fun T3 hT3 => ?_⟩
        have kH : Kp [] HG (upd HG T3 (.tup [.ref T4, .ref lw])) := Kp.new hT3
        have dT3 : Dp K (upd HG T3 (.tup [.ref T4, .ref lw])) (.ref T3) (.tuple [(flL _).data, .list (ws.map PyData.str)]) := .tup (SqT.of upd_same) (.cons (Dp.keep kH _ _ (Fl.fz _) (Dp.keep kG _ _ (Fl.fz _) dD)) (.cons (.lst (SqL.of (kH.lst (kG.lst hlwF (fun m => nomatch m)) (fun m => nomatch m))) (DpAll.strs _)) .nil))
        refine ⟨_, _, .tup (kH.sqT hpf) (.cons (Dp.keep kH _ _ (Fl.fz _) hvf) (.cons (.lst (SqL.of (kH.lst hlf (fun m => nomatch m))) (DpAll.strs _)) .nil)), dT3, hsh2, hsh2, _, rfl, ?_⟩
        rw [eqv_self hsh2]
        refine ite2 (fun c => absurd c (by simp)) (fun _ => ?_)
        have kE := kF.trans (kG.trans kH)
        exact ⟨_, _, _, _, _, _, _, rfl, pen24.keep kE (fun m => nomatch m) (fun m => nomatch m), Dp.keep kE _ _ fF dX24⟩
      | fn g l =>
        obtain ⟨Tw, pl, gs, rfl, hTw, hpl, hgs, _⟩ := hw
        have epl := hgs.length
        refine ⟨T, _, rfl, hT, rfl, _, _, rfl, _, _, rfl, _, _, rfl, rfl, ?_⟩
        refine ⟨_, rfl, rfl, _, rfl, ?_⟩
        refine ite2 (fun c => absurd (V.str.inj (of_decide_eq_true c)) (by decide +kernel)) (fun _ => ?_)
        refine ⟨_, rfl, (by show 2 ≤ sizeLine; decide), fun T2 hT2 => ?_⟩
        have kT : Kp [] H27 (upd H27 T2 (.tup [.str "fault", .ref Tw])) := Kp.new hT2
        have kF := k27.trans kT
        have hlwF := kT.lst hlw (fun m => nomatch m)
        have hTw := kT.sqT hTw
        have hpl := kT.lst hpl (fun m => nomatch m)
        generalize upd H27 T2 (.tup [.str "fault", .ref Tw]) = HE at kF hlwF hTw hpl ⊢
        refine ⟨_, rfl, rfl, _, rfl, ?_⟩
        refine ite2 (fun _ => ?_) (fun c => absurd (decide_eq_true rfl) c)
        refine ⟨_, rfl, Tw, _, _, _, rfl, rfl, hTw, at_of (j := 0) rfl rfl, rfl, _, rfl, ?_⟩
        refine ite2 (fun c => absurd (V.str.inj (of_decide_eq_true c)) (by decide +kernel)) (fun _ => ?_)
        refine ⟨(by show 1 ≤ sizeLine; decide), fun T4 hT4 => ?_⟩
        have kT4 : Kp [] HE (upd HE T4 (.tup [.str "pair"])) := Kp.new hT4
        have kF := kF.trans kT4
        have hlwF := kT4.lst hlwF (fun m => nomatch m)
        have hTw := kT4.sqT hTw
        have hpl := kT4.lst hpl (fun m => nomatch m)
        generalize upd HE T4 (.tup [.str "pair"]) = HE2 at kF hlwF hTw hpl ⊢
        refine ⟨_, rfl, rfl, _, rfl, ?_⟩
        refine ite2 (fun _ => ?_) (fun c => absurd (decide_eq_true rfl) c)
        refine ⟨_, rfl, Tw, _, _, _, rfl, rfl, hTw, at_of (j := 0) rfl rfl, rfl, _, rfl, ?_⟩
        refine ite2 (fun _ => ?_) (fun c => absurd (decide_eq_true rfl) c)
        refine ⟨_, rfl, Tw, _, _, _, rfl, rfl, hTw, at_of (j := 1) rfl rfl, _, rfl, Tw, _, _, _, rfl, rfl, hTw, at_of (j := 2) rfl rfl, pl, gs, rfl, .inl (SqL.of hpl), (by show 3 ≤ sizeLine; decide), fun T5 hT5 => ?_⟩
        have kT5 : Kp [] HE2 (upd HE2 T5 (.tup [.str "function", .str g, .int (gs.length : Nat)])) := Kp.new hT5
        have dD : Dp K (upd HE2 T5 (.tup [.str "function", .str g, .int (gs.length : Nat)])) (.ref T5) (flL (.w (.fn g l) S')).data := Dp.newT hT5 (.cons (.str _) (.cons (.str _) (.cons (by rw [epl]; exact .int _) .nil))) rfl
        have kF := kF.trans kT5
        have hlwF := kT5.lst hlwF (fun m => nomatch m)
        generalize upd HE2 T5 (.tup [.str "function", .str g, .int (gs.length : Nat)]) = HF at dD kF hlwF ⊢
        have dPF := Dp.keep kF _ _ (progU_fz _ _) dP
        have dtF := Dp.keep kF _ _ (data_fz _) hdt24
        refine ⟨_, rfl, _, rfl, .ref pr, vt, 24, fs2, t, t, ws, _, _, rfl, (by decide), dPF, hps, hpt, dtF, hrow.ok, hcm, hfl, (by have := hrow.mw; omega), (by have := hrow.dp; omega), fun pf vf lf HG kG hlfN hpf hvf hlf => ?_⟩
        refine ⟨_, rfl, _, rfl, (by show 2 ≤ sizeLine; decide), fun T3 hT3 => ?_⟩
        have kH : Kp [] HG (upd HG T3 (.tup [.ref T5, .ref lw])) := Kp.new hT3
        have dT3 : Dp K (upd HG T3 (.tup [.ref T5, .ref lw])) (.ref T3) (.tuple [(flL _).data, .list (ws.map PyData.str)]) := .tup (SqT.of upd_same) (.cons (Dp.keep kH _ _ (Fl.fz _) (Dp.keep kG _ _ (Fl.fz _) dD)) (.cons (.lst (SqL.of (kH.lst (kG.lst hlwF (fun m => nomatch m)) (fun m => nomatch m))) (DpAll.strs _)) .nil))
        refine ⟨_, _, .tup (kH.sqT hpf) (.cons (Dp.keep kH _ _ (Fl.fz _) hvf) (.cons (.lst (SqL.of (kH.lst hlf (fun m => nomatch m))) (DpAll.strs _)) .nil)), dT3, hsh2, hsh2, _, rfl, ?_⟩
        rw [eqv_self hsh2]
        refine ite2 (fun c => absurd c (by simp)) (fun _ => ?_)
        have kE := kF.trans (kG.trans kH)
        exact ⟨_, _, _, _, _, _, _, rfl, pen24.keep kE (fun m => nomatch m) (fun m => nomatch m), Dp.keep kE _ _ fF dX24⟩
  · rintro σ H20 ⟨v3, v4, v5, v6, v7, v8, v9, rfl, pen20, dX9⟩
    exact q _
end
end Lz

set_option Elab.async false
set_option linter.all false
set_option maxRecDepth 100000
set_option maxHeartbeats 8000000
namespace Lz
open PySem PySem.Spec PyProof.Rows L2
/-- PARTS_OF as the top leaves it -/
theorem po_mk {K : PySem.W.Frag} {pd : Addr} {u1 u2 u3 u4 u5 u6 u7 u8 u9 : Value} (h1 : PySem.W.nsIn K pd "give" = some (some u1)) (h2 : PySem.W.nsIn K pd "plus" = some (some u2)) (h3 : PySem.W.nsIn K pd "less" = some (some u3)) (h4 : PySem.W.nsIn K pd "times" = some (some u4)) (h5 : PySem.W.nsIn K pd "below" = some (some u5))
    (h6 : PySem.W.nsIn K pd "when" = some (some u6)) (h7 : PySem.W.nsIn K pd "pair" = some (some u7)) (h8 : PySem.W.nsIn K pd "left" = some (some u8)) (h9 : PySem.W.nsIn K pd "right" = some (some u9)) (n1 : PySem.W.nsIn K pd "number" = some none) (n2 : PySem.W.nsIn K pd "name" = some none) (n3 : PySem.W.nsIn K pd "fun" = some none) : PO K pd := by
  refine ⟨fun k n h => ?_, n1, n2, n3⟩
  have hk : k = "give" ∨ k = "plus" ∨ k = "less" ∨ k = "times" ∨ k = "below" ∨ k = "when" ∨ k = "pair" ∨ k = "left" ∨ k = "right" := by
    unfold kinds at h
    simp only [List.mem_cons, Prod.mk.injEq, List.not_mem_nil, or_false] at h
    rcases h with h | h | h | h | h | h | h | h | h
    · exact .inl h.1
    · exact .inr (.inl h.1)
    · exact .inr (.inr (.inl h.1))
    · exact .inr (.inr (.inr (.inl h.1)))
    · exact .inr (.inr (.inr (.inr (.inl h.1))))
    · exact .inr (.inr (.inr (.inr (.inr (.inl h.1)))))
    · exact .inr (.inr (.inr (.inr (.inr (.inr (.inl h.1))))))
    · exact .inr (.inr (.inr (.inr (.inr (.inr (.inr (.inl h.1)))))))
    · exact .inr (.inr (.inr (.inr (.inr (.inr (.inr (.inr h.1)))))))
  rcases hk with rfl | rfl | rfl | rfl | rfl | rfl | rfl | rfl | rfl
  · exact ⟨_, h1⟩
  · exact ⟨_, h2⟩
  · exact ⟨_, h3⟩
  · exact ⟨_, h4⟩
  · exact ⟨_, h5⟩
  · exact ⟨_, h6⟩
  · exact ⟨_, h7⟩
  · exact ⟨_, h8⟩
  · exact ⟨_, h9⟩
/-- of a fun part, by the same rule as of gives -/
theorem rule_fun {K : PySem.W.Frag} {vs : List V} {H : Hp} {Q : VK} {E : XK} (h : spRule K ["fun"] vs H Q E) : spDueCall K vs H Q E := by
  obtain ⟨vp, v, fs, d, t, o, rfl, hp, hok, hd, hto, hk, hm, hm2, hm3, hdue, q⟩ := h
  obtain ⟨x, rfl, _⟩ := hd_fun hto (List.mem_singleton.mp hk)
  obtain ⟨ts, g, i, hgx, hgv, hgi, hgl, rfl⟩ := due_fn hdue
  have hgm := List.mem_of_getElem? hgi
  have hb := hok.ok.bd g hgm
  have hbm := hb.1.many
  have hmw := mw_many g.2.2
  exact ⟨vp, v, fs, d, _, ts, i, g, _, rfl, hp, hok.ok, hd, hgv, hgi, hgl, by omega, hok.bo g hgm, by omega, q⟩
noncomputable def tabS (K : PySem.W.Frag) (a1 a2 a3 a4 a5 a6 a7 : Addr) (f : Addr) : Option Sp :=
  if f = a1 then some (spRule K ["fun"]) else if f = a2 then some (spRule K ["give"]) else if f = a3 then some (spRule K ["let"]) else if f = a4 then some (spRule K ["shut"]) else if f = a5 then some (spRule K fours) else if f = a6 then some (spRule K ["when"]) else if f = a7 then some (spRule K ["left", "right"]) else none
theorem rules_mk {P : Program} {w : World} {K : PySem.W.Frag} {mg : Str → Option Value} {base : Heap} {dd a1 a2 a3 a4 a5 a6 a7 : Addr} (h1 : Held P w K mg base 6 a1 (spRule K ["fun"])) (h2 : Held P w K mg base 6 a2 (spRule K ["give"])) (h3 : Held P w K mg base 6 a3 (spRule K ["let"])) (h4 : Held P w K mg base 6 a4 (spRule K ["shut"])) (h5 : Held P w K mg base 6 a5 (spRule K fours)) (h6 : Held P w K mg base 6 a6 (spRule K ["when"])) (h7 : Held P w K mg base 6 a7 (spRule K ["left", "right"]))
    (nd : [a1, a2, a3, a4, a5, a6, a7].Nodup)
    (r1 : PySem.W.nsIn K dd "fun" = some (some (.ref a1))) (r2 : PySem.W.nsIn K dd "give" = some (some (.ref a2))) (r3 : PySem.W.nsIn K dd "let" = some (some (.ref a3))) (r4 : PySem.W.nsIn K dd "shut" = some (some (.ref a4))) (r5 : PySem.W.nsIn K dd "plus" = some (some (.ref a5))) (r6 : PySem.W.nsIn K dd "less" = some (some (.ref a5))) (r7 : PySem.W.nsIn K dd "times" = some (some (.ref a5))) (r8 : PySem.W.nsIn K dd "below" = some (some (.ref a5))) (r9 : PySem.W.nsIn K dd "when" = some (some (.ref a6))) (r10 : PySem.W.nsIn K dd "left" = some (some (.ref a7))) (r11 : PySem.W.nsIn K dd "right" = some (some (.ref a7))) :
    Rules P w K mg base dd (tabS K a1 a2 a3 a4 a5 a6 a7) := by
  simp only [List.nodup_cons, List.mem_cons, List.not_mem_nil, or_false, not_or, not_false_eq_true, List.nodup_nil, and_true] at nd
  obtain ⟨⟨n12, n13, n14, n15, n16, n17⟩, ⟨n23, n24, n25, n26, n27⟩, ⟨n34, n35, n36, n37⟩, ⟨n45, n46, n47⟩, ⟨n56, n57⟩, n67⟩ := nd
  have e1 : tabS K a1 a2 a3 a4 a5 a6 a7 a1 = some (spRule K ["fun"]) := by unfold tabS; rw [if_pos rfl]
  have e2 : tabS K a1 a2 a3 a4 a5 a6 a7 a2 = some (spRule K ["give"]) := by unfold tabS; rw [if_neg (Ne.symm n12), if_pos rfl]
  have e3 : tabS K a1 a2 a3 a4 a5 a6 a7 a3 = some (spRule K ["let"]) := by unfold tabS; rw [if_neg (Ne.symm n13), if_neg (Ne.symm n23), if_pos rfl]
  have e4 : tabS K a1 a2 a3 a4 a5 a6 a7 a4 = some (spRule K ["shut"]) := by unfold tabS; rw [if_neg (Ne.symm n14), if_neg (Ne.symm n24), if_neg (Ne.symm n34), if_pos rfl]
  have e5 : tabS K a1 a2 a3 a4 a5 a6 a7 a5 = some (spRule K fours) := by unfold tabS; rw [if_neg (Ne.symm n15), if_neg (Ne.symm n25), if_neg (Ne.symm n35), if_neg (Ne.symm n45), if_pos rfl]
  have e6 : tabS K a1 a2 a3 a4 a5 a6 a7 a6 = some (spRule K ["when"]) := by unfold tabS; rw [if_neg (Ne.symm n16), if_neg (Ne.symm n26), if_neg (Ne.symm n36), if_neg (Ne.symm n46), if_neg (Ne.symm n56), if_pos rfl]
  have e7 : tabS K a1 a2 a3 a4 a5 a6 a7 a7 = some (spRule K ["left", "right"]) := by unfold tabS; rw [if_neg (Ne.symm n17), if_neg (Ne.symm n27), if_neg (Ne.symm n37), if_neg (Ne.symm n47), if_neg (Ne.symm n57), if_neg (Ne.symm n67), if_pos rfl]
  refine ⟨fun f sp h => ?_, fun k m => ?_⟩
  · unfold tabS at h
    split at h
    · cases h; subst f; exact h1
    split at h
    · cases h; subst f; exact h2
    split at h
    · cases h; subst f; exact h3
    split at h
    · cases h; subst f; exact h4
    split at h
    · cases h; subst f; exact h5
    split at h
    · cases h; subst f; exact h6
    split at h
    · cases h; subst f; exact h7
    · cases h
  · simp only [List.mem_cons, List.not_mem_nil, or_false] at m
    rcases m with rfl | rfl | rfl | rfl | rfl | rfl | rfl | rfl | rfl | rfl | rfl
    · exact ⟨a1, _, r1, e1, by decide +kernel⟩
    · exact ⟨a2, _, r2, e2, by decide +kernel⟩
    · exact ⟨a3, _, r3, e3, by decide +kernel⟩
    · exact ⟨a4, _, r4, e4, by decide +kernel⟩
    · exact ⟨a5, _, r5, e5, by decide +kernel⟩
    · exact ⟨a5, _, r6, e5, by decide +kernel⟩
    · exact ⟨a5, _, r7, e5, by decide +kernel⟩
    · exact ⟨a5, _, r8, e5, by decide +kernel⟩
    · exact ⟨a6, _, r9, e6, by decide +kernel⟩
    · exact ⟨a7, _, r10, e7, by decide +kernel⟩
    · exact ⟨a7, _, r11, e7, by decide +kernel⟩
theorem apart_fn {K : PySem.W.Frag} {a b : Addr} {oa ob : Value} {da db : Option Addr} {fa fb : FuncData} {sa sb : Array (Option Value)} (ha : K.lookup a = some ⟨oa, da, .func fa, sa⟩) (hb : K.lookup b = some ⟨ob, db, .func fb, sb⟩) (n : fa.name ≠ fb.name) : a ≠ b := fun e => by
  subst e
  rw [ha] at hb
  cases hb
  exact n rfl
theorem all_mk {l : PySem.W.OpenLaw} {w : World} {K : PySem.W.Frag} {h : Heap} {mg : Str → Option Value} {fa : Addr} (X : K.In h) (G : h.Ns mainGlobals mg) (hfa : mg "law" = some (.ref fa))
    {pd : Addr} {es : Array DictEntry} {n : Nat} {u1 u2 u3 u4 u5 u6 u7 u8 u9 : Value}
    {fFits : Addr} {odFits anFits : Option Addr} {slFits : Array (Option Value)} {ocFits kVFits dcFits pmFits cdFits ctFits : Value}
    (aFits : PySem.W.nsIn K mainGlobals "fits" = some (some (.ref fFits))) (lFits : K.lookup fFits = some ⟨ocFits, odFits, .func (PySem.W.fnOf "fits" "fits" (defArgs sFits) (defBody sFits) (defScope sFits) .none kVFits dcFits pmFits anFits cdFits ctFits), slFits⟩) (cFits : PySem.W.codeIn K cdFits "fits" = true) (kFits : PySem.W.keepIn K (.ref fFits) = true)
    {fComeOf : Addr} {odComeOf anComeOf : Option Addr} {slComeOf : Array (Option Value)} {ocComeOf kVComeOf dcComeOf pmComeOf cdComeOf ctComeOf : Value}
    (aComeOf : PySem.W.nsIn K mainGlobals "come_of" = some (some (.ref fComeOf))) (lComeOf : K.lookup fComeOf = some ⟨ocComeOf, odComeOf, .func (PySem.W.fnOf "come_of" "come_of" (defArgs sComeOf) (defBody sComeOf) (defScope sComeOf) .none kVComeOf dcComeOf pmComeOf anComeOf cdComeOf ctComeOf), slComeOf⟩) (cComeOf : PySem.W.codeIn K cdComeOf "come_of" = true) (kComeOf : PySem.W.keepIn K (.ref fComeOf) = true)
    {fWithin : Addr} {odWithin anWithin : Option Addr} {slWithin : Array (Option Value)} {ocWithin kVWithin dcWithin pmWithin cdWithin ctWithin : Value}
    (aWithin : PySem.W.nsIn K mainGlobals "within" = some (some (.ref fWithin))) (lWithin : K.lookup fWithin = some ⟨ocWithin, odWithin, .func (PySem.W.fnOf "within" "within" (defArgs sWithin) (defBody sWithin) (defScope sWithin) .none kVWithin dcWithin pmWithin anWithin cdWithin ctWithin), slWithin⟩) (cWithin : PySem.W.codeIn K cdWithin "within" = true) (kWithin : PySem.W.keepIn K (.ref fWithin) = true)
    {fAllIn : Addr} {odAllIn anAllIn : Option Addr} {slAllIn : Array (Option Value)} {ocAllIn kVAllIn dcAllIn pmAllIn cdAllIn ctAllIn : Value}
    (aAllIn : PySem.W.nsIn K mainGlobals "all_in" = some (some (.ref fAllIn))) (lAllIn : K.lookup fAllIn = some ⟨ocAllIn, odAllIn, .func (PySem.W.fnOf "all_in" "all_in" (defArgs sAllIn) (defBody sAllIn) (defScope sAllIn) .none kVAllIn dcAllIn pmAllIn anAllIn cdAllIn ctAllIn), slAllIn⟩) (cAllIn : PySem.W.codeIn K cdAllIn "all_in" = true) (kAllIn : PySem.W.keepIn K (.ref fAllIn) = true)
    {fAllFunctions : Addr} {odAllFunctions anAllFunctions : Option Addr} {slAllFunctions : Array (Option Value)} {ocAllFunctions kVAllFunctions dcAllFunctions pmAllFunctions cdAllFunctions ctAllFunctions : Value}
    (aAllFunctions : PySem.W.nsIn K mainGlobals "all_functions" = some (some (.ref fAllFunctions))) (lAllFunctions : K.lookup fAllFunctions = some ⟨ocAllFunctions, odAllFunctions, .func (PySem.W.fnOf "all_functions" "all_functions" (defArgs sAllFunctions) (defBody sAllFunctions) (defScope sAllFunctions) .none kVAllFunctions dcAllFunctions pmAllFunctions anAllFunctions cdAllFunctions ctAllFunctions), slAllFunctions⟩) (cAllFunctions : PySem.W.codeIn K cdAllFunctions "all_functions" = true) (kAllFunctions : PySem.W.keepIn K (.ref fAllFunctions) = true)
    {fNumberOf : Addr} {odNumberOf anNumberOf : Option Addr} {slNumberOf : Array (Option Value)} {ocNumberOf kVNumberOf dcNumberOf pmNumberOf cdNumberOf ctNumberOf : Value}
    (aNumberOf : PySem.W.nsIn K mainGlobals "number_of" = some (some (.ref fNumberOf))) (lNumberOf : K.lookup fNumberOf = some ⟨ocNumberOf, odNumberOf, .func (PySem.W.fnOf "number_of" "number_of" (defArgs sNumberOf) (defBody sNumberOf) (defScope sNumberOf) .none kVNumberOf dcNumberOf pmNumberOf anNumberOf cdNumberOf ctNumberOf), slNumberOf⟩) (cNumberOf : PySem.W.codeIn K cdNumberOf "number_of" = true) (kNumberOf : PySem.W.keepIn K (.ref fNumberOf) = true)
    {fFunctionOf : Addr} {odFunctionOf anFunctionOf : Option Addr} {slFunctionOf : Array (Option Value)} {ocFunctionOf kVFunctionOf dcFunctionOf pmFunctionOf cdFunctionOf ctFunctionOf : Value}
    (aFunctionOf : PySem.W.nsIn K mainGlobals "function_of" = some (some (.ref fFunctionOf))) (lFunctionOf : K.lookup fFunctionOf = some ⟨ocFunctionOf, odFunctionOf, .func (PySem.W.fnOf "function_of" "function_of" (defArgs sFunctionOf) (defBody sFunctionOf) (defScope sFunctionOf) .none kVFunctionOf dcFunctionOf pmFunctionOf anFunctionOf cdFunctionOf ctFunctionOf), slFunctionOf⟩) (cFunctionOf : PySem.W.codeIn K cdFunctionOf "function_of" = true) (kFunctionOf : PySem.W.keepIn K (.ref fFunctionOf) = true)
    {fWants : Addr} {odWants anWants : Option Addr} {slWants : Array (Option Value)} {ocWants kVWants dcWants pmWants cdWants ctWants : Value}
    (aWants : PySem.W.nsIn K mainGlobals "wants" = some (some (.ref fWants))) (lWants : K.lookup fWants = some ⟨ocWants, odWants, .func (PySem.W.fnOf "wants" "wants" (defArgs sWants) (defBody sWants) (defScope sWants) .none kVWants dcWants pmWants anWants cdWants ctWants), slWants⟩) (cWants : PySem.W.codeIn K cdWants "wants" = true) (kWants : PySem.W.keepIn K (.ref fWants) = true)
    {fMostWanted : Addr} {odMostWanted anMostWanted : Option Addr} {slMostWanted : Array (Option Value)} {ocMostWanted kVMostWanted dcMostWanted pmMostWanted cdMostWanted ctMostWanted : Value}
    (aMostWanted : PySem.W.nsIn K mainGlobals "most_wanted" = some (some (.ref fMostWanted))) (lMostWanted : K.lookup fMostWanted = some ⟨ocMostWanted, odMostWanted, .func (PySem.W.fnOf "most_wanted" "most_wanted" (defArgs sMostWanted) (defBody sMostWanted) (defScope sMostWanted) .none kVMostWanted dcMostWanted pmMostWanted anMostWanted cdMostWanted ctMostWanted), slMostWanted⟩) (cMostWanted : PySem.W.codeIn K cdMostWanted "most_wanted" = true) (kMostWanted : PySem.W.keepIn K (.ref fMostWanted) = true)
    {fMadeOf : Addr} {odMadeOf anMadeOf : Option Addr} {slMadeOf : Array (Option Value)} {ocMadeOf kVMadeOf dcMadeOf pmMadeOf cdMadeOf ctMadeOf : Value}
    (aMadeOf : PySem.W.nsIn K mainGlobals "made_of" = some (some (.ref fMadeOf))) (lMadeOf : K.lookup fMadeOf = some ⟨ocMadeOf, odMadeOf, .func (PySem.W.fnOf "made_of" "made_of" (defArgs sMadeOf) (defBody sMadeOf) (defScope sMadeOf) .none kVMadeOf dcMadeOf pmMadeOf anMadeOf cdMadeOf ctMadeOf), slMadeOf⟩) (cMadeOf : PySem.W.codeIn K cdMadeOf "made_of" = true) (kMadeOf : PySem.W.keepIn K (.ref fMadeOf) = true)
    {fPutIn : Addr} {odPutIn anPutIn : Option Addr} {slPutIn : Array (Option Value)} {ocPutIn kVPutIn dcPutIn pmPutIn cdPutIn ctPutIn : Value}
    (aPutIn : PySem.W.nsIn K mainGlobals "put_in" = some (some (.ref fPutIn))) (lPutIn : K.lookup fPutIn = some ⟨ocPutIn, odPutIn, .func (PySem.W.fnOf "put_in" "put_in" (defArgs sPutIn) (defBody sPutIn) (defScope sPutIn) .none kVPutIn dcPutIn pmPutIn anPutIn cdPutIn ctPutIn), slPutIn⟩) (cPutIn : PySem.W.codeIn K cdPutIn "put_in" = true) (kPutIn : PySem.W.keepIn K (.ref fPutIn) = true)
    {fGiven : Addr} {odGiven anGiven : Option Addr} {slGiven : Array (Option Value)} {ocGiven kVGiven dcGiven pmGiven cdGiven ctGiven : Value}
    (aGiven : PySem.W.nsIn K mainGlobals "given" = some (some (.ref fGiven))) (lGiven : K.lookup fGiven = some ⟨ocGiven, odGiven, .func (PySem.W.fnOf "given" "given" (defArgs sGiven) (defBody sGiven) (defScope sGiven) .none kVGiven dcGiven pmGiven anGiven cdGiven ctGiven), slGiven⟩) (cGiven : PySem.W.codeIn K cdGiven "given" = true) (kGiven : PySem.W.keepIn K (.ref fGiven) = true)
    {fIsWorth : Addr} {odIsWorth anIsWorth : Option Addr} {slIsWorth : Array (Option Value)} {ocIsWorth kVIsWorth dcIsWorth pmIsWorth cdIsWorth ctIsWorth : Value}
    (aIsWorth : PySem.W.nsIn K mainGlobals "is_worth" = some (some (.ref fIsWorth))) (lIsWorth : K.lookup fIsWorth = some ⟨ocIsWorth, odIsWorth, .func (PySem.W.fnOf "is_worth" "is_worth" (defArgs sIsWorth) (defBody sIsWorth) (defScope sIsWorth) .none kVIsWorth dcIsWorth pmIsWorth anIsWorth cdIsWorth ctIsWorth), slIsWorth⟩) (cIsWorth : PySem.W.codeIn K cdIsWorth "is_worth" = true) (kIsWorth : PySem.W.keepIn K (.ref fIsWorth) = true)
    {fDueOfCall : Addr} {odDueOfCall anDueOfCall : Option Addr} {slDueOfCall : Array (Option Value)} {ocDueOfCall kVDueOfCall dcDueOfCall pmDueOfCall cdDueOfCall ctDueOfCall : Value}
    (aDueOfCall : PySem.W.nsIn K mainGlobals "due_of_call" = some (some (.ref fDueOfCall))) (lDueOfCall : K.lookup fDueOfCall = some ⟨ocDueOfCall, odDueOfCall, .func (PySem.W.fnOf "due_of_call" "due_of_call" (defArgs sDueOfCall) (defBody sDueOfCall) (defScope sDueOfCall) .none kVDueOfCall dcDueOfCall pmDueOfCall anDueOfCall cdDueOfCall ctDueOfCall), slDueOfCall⟩) (cDueOfCall : PySem.W.codeIn K cdDueOfCall "due_of_call" = true) (kDueOfCall : PySem.W.keepIn K (.ref fDueOfCall) = true)
    {fDueOfGive : Addr} {odDueOfGive anDueOfGive : Option Addr} {slDueOfGive : Array (Option Value)} {ocDueOfGive kVDueOfGive dcDueOfGive pmDueOfGive cdDueOfGive ctDueOfGive : Value}
    (aDueOfGive : PySem.W.nsIn K mainGlobals "due_of_give" = some (some (.ref fDueOfGive))) (lDueOfGive : K.lookup fDueOfGive = some ⟨ocDueOfGive, odDueOfGive, .func (PySem.W.fnOf "due_of_give" "due_of_give" (defArgs sDueOfGive) (defBody sDueOfGive) (defScope sDueOfGive) .none kVDueOfGive dcDueOfGive pmDueOfGive anDueOfGive cdDueOfGive ctDueOfGive), slDueOfGive⟩) (cDueOfGive : PySem.W.codeIn K cdDueOfGive "due_of_give" = true) (kDueOfGive : PySem.W.keepIn K (.ref fDueOfGive) = true)
    {fDueOfLet : Addr} {odDueOfLet anDueOfLet : Option Addr} {slDueOfLet : Array (Option Value)} {ocDueOfLet kVDueOfLet dcDueOfLet pmDueOfLet cdDueOfLet ctDueOfLet : Value}
    (aDueOfLet : PySem.W.nsIn K mainGlobals "due_of_let" = some (some (.ref fDueOfLet))) (lDueOfLet : K.lookup fDueOfLet = some ⟨ocDueOfLet, odDueOfLet, .func (PySem.W.fnOf "due_of_let" "due_of_let" (defArgs sDueOfLet) (defBody sDueOfLet) (defScope sDueOfLet) .none kVDueOfLet dcDueOfLet pmDueOfLet anDueOfLet cdDueOfLet ctDueOfLet), slDueOfLet⟩) (cDueOfLet : PySem.W.codeIn K cdDueOfLet "due_of_let" = true) (kDueOfLet : PySem.W.keepIn K (.ref fDueOfLet) = true)
    {fDueOfShut : Addr} {odDueOfShut anDueOfShut : Option Addr} {slDueOfShut : Array (Option Value)} {ocDueOfShut kVDueOfShut dcDueOfShut pmDueOfShut cdDueOfShut ctDueOfShut : Value}
    (aDueOfShut : PySem.W.nsIn K mainGlobals "due_of_shut" = some (some (.ref fDueOfShut))) (lDueOfShut : K.lookup fDueOfShut = some ⟨ocDueOfShut, odDueOfShut, .func (PySem.W.fnOf "due_of_shut" "due_of_shut" (defArgs sDueOfShut) (defBody sDueOfShut) (defScope sDueOfShut) .none kVDueOfShut dcDueOfShut pmDueOfShut anDueOfShut cdDueOfShut ctDueOfShut), slDueOfShut⟩) (cDueOfShut : PySem.W.codeIn K cdDueOfShut "due_of_shut" = true) (kDueOfShut : PySem.W.keepIn K (.ref fDueOfShut) = true)
    {fDueOfTwo : Addr} {odDueOfTwo anDueOfTwo : Option Addr} {slDueOfTwo : Array (Option Value)} {ocDueOfTwo kVDueOfTwo dcDueOfTwo pmDueOfTwo cdDueOfTwo ctDueOfTwo : Value}
    (aDueOfTwo : PySem.W.nsIn K mainGlobals "due_of_two" = some (some (.ref fDueOfTwo))) (lDueOfTwo : K.lookup fDueOfTwo = some ⟨ocDueOfTwo, odDueOfTwo, .func (PySem.W.fnOf "due_of_two" "due_of_two" (defArgs sDueOfTwo) (defBody sDueOfTwo) (defScope sDueOfTwo) .none kVDueOfTwo dcDueOfTwo pmDueOfTwo anDueOfTwo cdDueOfTwo ctDueOfTwo), slDueOfTwo⟩) (cDueOfTwo : PySem.W.codeIn K cdDueOfTwo "due_of_two" = true) (kDueOfTwo : PySem.W.keepIn K (.ref fDueOfTwo) = true)
    {fDueOfWhen : Addr} {odDueOfWhen anDueOfWhen : Option Addr} {slDueOfWhen : Array (Option Value)} {ocDueOfWhen kVDueOfWhen dcDueOfWhen pmDueOfWhen cdDueOfWhen ctDueOfWhen : Value}
    (aDueOfWhen : PySem.W.nsIn K mainGlobals "due_of_when" = some (some (.ref fDueOfWhen))) (lDueOfWhen : K.lookup fDueOfWhen = some ⟨ocDueOfWhen, odDueOfWhen, .func (PySem.W.fnOf "due_of_when" "due_of_when" (defArgs sDueOfWhen) (defBody sDueOfWhen) (defScope sDueOfWhen) .none kVDueOfWhen dcDueOfWhen pmDueOfWhen anDueOfWhen cdDueOfWhen ctDueOfWhen), slDueOfWhen⟩) (cDueOfWhen : PySem.W.codeIn K cdDueOfWhen "due_of_when" = true) (kDueOfWhen : PySem.W.keepIn K (.ref fDueOfWhen) = true)
    {fDueOfSide : Addr} {odDueOfSide anDueOfSide : Option Addr} {slDueOfSide : Array (Option Value)} {ocDueOfSide kVDueOfSide dcDueOfSide pmDueOfSide cdDueOfSide ctDueOfSide : Value}
    (aDueOfSide : PySem.W.nsIn K mainGlobals "due_of_side" = some (some (.ref fDueOfSide))) (lDueOfSide : K.lookup fDueOfSide = some ⟨ocDueOfSide, odDueOfSide, .func (PySem.W.fnOf "due_of_side" "due_of_side" (defArgs sDueOfSide) (defBody sDueOfSide) (defScope sDueOfSide) .none kVDueOfSide dcDueOfSide pmDueOfSide anDueOfSide cdDueOfSide ctDueOfSide), slDueOfSide⟩) (cDueOfSide : PySem.W.codeIn K cdDueOfSide "due_of_side" = true) (kDueOfSide : PySem.W.keepIn K (.ref fDueOfSide) = true)
    {fDue : Addr} {odDue anDue : Option Addr} {slDue : Array (Option Value)} {ocDue kVDue dcDue pmDue cdDue ctDue : Value}
    (aDue : PySem.W.nsIn K mainGlobals "due" = some (some (.ref fDue))) (lDue : K.lookup fDue = some ⟨ocDue, odDue, .func (PySem.W.fnOf "due" "due" (defArgs sDue) (defBody sDue) (defScope sDue) .none kVDue dcDue pmDue anDue cdDue ctDue), slDue⟩) (cDue : PySem.W.codeIn K cdDue "due" = true) (kDue : PySem.W.keepIn K (.ref fDue) = true)
    {fPutBack : Addr} {odPutBack anPutBack : Option Addr} {slPutBack : Array (Option Value)} {ocPutBack kVPutBack dcPutBack pmPutBack cdPutBack ctPutBack : Value}
    (aPutBack : PySem.W.nsIn K mainGlobals "put_back" = some (some (.ref fPutBack))) (lPutBack : K.lookup fPutBack = some ⟨ocPutBack, odPutBack, .func (PySem.W.fnOf "put_back" "put_back" (defArgs sPutBack) (defBody sPutBack) (defScope sPutBack) .none kVPutBack dcPutBack pmPutBack anPutBack cdPutBack ctPutBack), slPutBack⟩) (cPutBack : PySem.W.codeIn K cdPutBack "put_back" = true) (kPutBack : PySem.W.keepIn K (.ref fPutBack) = true)
    {fGoToStep : Addr} {odGoToStep anGoToStep : Option Addr} {slGoToStep : Array (Option Value)} {ocGoToStep kVGoToStep dcGoToStep pmGoToStep cdGoToStep ctGoToStep : Value}
    (aGoToStep : PySem.W.nsIn K mainGlobals "go_to_step" = some (some (.ref fGoToStep))) (lGoToStep : K.lookup fGoToStep = some ⟨ocGoToStep, odGoToStep, .func (PySem.W.fnOf "go_to_step" "go_to_step" (defArgs sGoToStep) (defBody sGoToStep) (defScope sGoToStep) .none kVGoToStep dcGoToStep pmGoToStep anGoToStep cdGoToStep ctGoToStep), slGoToStep⟩) (cGoToStep : PySem.W.codeIn K cdGoToStep "go_to_step" = true) (kGoToStep : PySem.W.keepIn K (.ref fGoToStep) = true)
    {fComeTo : Addr} {odComeTo anComeTo : Option Addr} {slComeTo : Array (Option Value)} {ocComeTo kVComeTo dcComeTo pmComeTo cdComeTo ctComeTo : Value}
    (aComeTo : PySem.W.nsIn K mainGlobals "come_to" = some (some (.ref fComeTo))) (lComeTo : K.lookup fComeTo = some ⟨ocComeTo, odComeTo, .func (PySem.W.fnOf "come_to" "come_to" (defArgs sComeTo) (defBody sComeTo) (defScope sComeTo) .none kVComeTo dcComeTo pmComeTo anComeTo cdComeTo ctComeTo), slComeTo⟩) (cComeTo : PySem.W.codeIn K cdComeTo "come_to" = true) (kComeTo : PySem.W.keepIn K (.ref fComeTo) = true)
    {fFlat : Addr} {odFlat anFlat : Option Addr} {slFlat : Array (Option Value)} {ocFlat kVFlat dcFlat pmFlat cdFlat ctFlat : Value}
    (aFlat : PySem.W.nsIn K mainGlobals "flat" = some (some (.ref fFlat))) (lFlat : K.lookup fFlat = some ⟨ocFlat, odFlat, .func (PySem.W.fnOf "flat" "flat" (defArgs sFlat) (defBody sFlat) (defScope sFlat) .none kVFlat dcFlat pmFlat anFlat cdFlat ctFlat), slFlat⟩) (cFlat : PySem.W.codeIn K cdFlat "flat" = true) (kFlat : PySem.W.keepIn K (.ref fFlat) = true)
    {fLed : Addr} {odLed anLed : Option Addr} {slLed : Array (Option Value)} {ocLed kVLed dcLed pmLed cdLed ctLed : Value}
    (aLed : PySem.W.nsIn K mainGlobals "led" = some (some (.ref fLed))) (lLed : K.lookup fLed = some ⟨ocLed, odLed, .func (PySem.W.fnOf "led" "led" (defArgs sLed) (defBody sLed) (defScope sLed) .none kVLed dcLed pmLed anLed cdLed ctLed), slLed⟩) (cLed : PySem.W.codeIn K cdLed "led" = true) (kLed : PySem.W.keepIn K (.ref fLed) = true)
    {fLPen : Addr} {odLPen anLPen : Option Addr} {slLPen : Array (Option Value)} {ocLPen kVLPen dcLPen pmLPen cdLPen ctLPen : Value}
    (aLPen : PySem.W.nsIn K mainGlobals "_law_pen" = some (some (.ref fLPen))) (lLPen : K.lookup fLPen = some ⟨ocLPen, odLPen, .func (PySem.W.fnOf "_law_pen" "_law_pen" (defArgs sLPen) (defBody sLPen) (defScope sLPen) .none kVLPen dcLPen pmLPen anLPen cdLPen ctLPen), slLPen⟩) (cLPen : PySem.W.codeIn K cdLPen "_law_pen" = true) (kLPen : PySem.W.keepIn K (.ref fLPen) = true)
    {fLDraw : Addr} {odLDraw anLDraw : Option Addr} {slLDraw : Array (Option Value)} {ocLDraw kVLDraw dcLDraw pmLDraw cdLDraw ctLDraw : Value}
    (aLDraw : PySem.W.nsIn K mainGlobals "_law_draw" = some (some (.ref fLDraw))) (lLDraw : K.lookup fLDraw = some ⟨ocLDraw, odLDraw, .func (PySem.W.fnOf "_law_draw" "_law_draw" (defArgs sLDraw) (defBody sLDraw) (defScope sLDraw) .none kVLDraw dcLDraw pmLDraw anLDraw cdLDraw ctLDraw), slLDraw⟩) (cLDraw : PySem.W.codeIn K cdLDraw "_law_draw" = true) (kLDraw : PySem.W.keepIn K (.ref fLDraw) = true)
    {fLCalled : Addr} {odLCalled anLCalled : Option Addr} {slLCalled : Array (Option Value)} {ocLCalled kVLCalled dcLCalled pmLCalled cdLCalled ctLCalled : Value}
    (aLCalled : PySem.W.nsIn K mainGlobals "_law_called" = some (some (.ref fLCalled))) (lLCalled : K.lookup fLCalled = some ⟨ocLCalled, odLCalled, .func (PySem.W.fnOf "_law_called" "_law_called" (defArgs sLCalled) (defBody sLCalled) (defScope sLCalled) .none kVLCalled dcLCalled pmLCalled anLCalled cdLCalled ctLCalled), slLCalled⟩) (cLCalled : PySem.W.codeIn K cdLCalled "_law_called" = true) (kLCalled : PySem.W.keepIn K (.ref fLCalled) = true)
    {fLWants : Addr} {odLWants anLWants : Option Addr} {slLWants : Array (Option Value)} {ocLWants kVLWants dcLWants pmLWants cdLWants ctLWants : Value}
    (aLWants : PySem.W.nsIn K mainGlobals "_law_wants" = some (some (.ref fLWants))) (lLWants : K.lookup fLWants = some ⟨ocLWants, odLWants, .func (PySem.W.fnOf "_law_wants" "_law_wants" (defArgs sLWants) (defBody sLWants) (defScope sLWants) .none kVLWants dcLWants pmLWants anLWants cdLWants ctLWants), slLWants⟩) (cLWants : PySem.W.codeIn K cdLWants "_law_wants" = true) (kLWants : PySem.W.keepIn K (.ref fLWants) = true)
    {fLInto : Addr} {odLInto anLInto : Option Addr} {slLInto : Array (Option Value)} {ocLInto kVLInto dcLInto pmLInto cdLInto ctLInto : Value}
    (aLInto : PySem.W.nsIn K mainGlobals "_law_into" = some (some (.ref fLInto))) (lLInto : K.lookup fLInto = some ⟨ocLInto, odLInto, .func (PySem.W.fnOf "_law_into" "_law_into" (defArgs sLInto) (defBody sLInto) (defScope sLInto) .none kVLInto dcLInto pmLInto anLInto cdLInto ctLInto), slLInto⟩) (cLInto : PySem.W.codeIn K cdLInto "_law_into" = true) (kLInto : PySem.W.keepIn K (.ref fLInto) = true)
    {fLSecond : Addr} {odLSecond anLSecond : Option Addr} {slLSecond : Array (Option Value)} {ocLSecond kVLSecond dcLSecond pmLSecond cdLSecond ctLSecond : Value}
    (aLSecond : PySem.W.nsIn K mainGlobals "_law_second" = some (some (.ref fLSecond))) (lLSecond : K.lookup fLSecond = some ⟨ocLSecond, odLSecond, .func (PySem.W.fnOf "_law_second" "_law_second" (defArgs sLSecond) (defBody sLSecond) (defScope sLSecond) .none kVLSecond dcLSecond pmLSecond anLSecond cdLSecond ctLSecond), slLSecond⟩) (cLSecond : PySem.W.codeIn K cdLSecond "_law_second" = true) (kLSecond : PySem.W.keepIn K (.ref fLSecond) = true)
    {fLOut : Addr} {odLOut anLOut : Option Addr} {slLOut : Array (Option Value)} {ocLOut kVLOut dcLOut pmLOut cdLOut ctLOut : Value}
    (aLOut : PySem.W.nsIn K mainGlobals "_law_out" = some (some (.ref fLOut))) (lLOut : K.lookup fLOut = some ⟨ocLOut, odLOut, .func (PySem.W.fnOf "_law_out" "_law_out" (defArgs sLOut) (defBody sLOut) (defScope sLOut) .none kVLOut dcLOut pmLOut anLOut cdLOut ctLOut), slLOut⟩) (cLOut : PySem.W.codeIn K cdLOut "_law_out" = true) (kLOut : PySem.W.keepIn K (.ref fLOut) = true)
    {fLCome : Addr} {odLCome anLCome : Option Addr} {slLCome : Array (Option Value)} {ocLCome kVLCome dcLCome pmLCome cdLCome ctLCome : Value}
    (aLCome : PySem.W.nsIn K mainGlobals "_law_come" = some (some (.ref fLCome))) (lLCome : K.lookup fLCome = some ⟨ocLCome, odLCome, .func (PySem.W.fnOf "_law_come" "_law_come" (defArgs sLCome) (defBody sLCome) (defScope sLCome) .none kVLCome dcLCome pmLCome anLCome cdLCome ctLCome), slLCome⟩) (cLCome : PySem.W.codeIn K cdLCome "_law_come" = true) (kLCome : PySem.W.keepIn K (.ref fLCome) = true)
    {fLEnd : Addr} {odLEnd anLEnd : Option Addr} {slLEnd : Array (Option Value)} {ocLEnd kVLEnd dcLEnd pmLEnd cdLEnd ctLEnd : Value}
    (aLEnd : PySem.W.nsIn K mainGlobals "_law_end" = some (some (.ref fLEnd))) (lLEnd : K.lookup fLEnd = some ⟨ocLEnd, odLEnd, .func (PySem.W.fnOf "_law_end" "_law_end" (defArgs sLEnd) (defBody sLEnd) (defScope sLEnd) .none kVLEnd dcLEnd pmLEnd anLEnd cdLEnd ctLEnd), slLEnd⟩) (cLEnd : PySem.W.codeIn K cdLEnd "_law_end" = true) (kLEnd : PySem.W.keepIn K (.ref fLEnd) = true)
    {fLMixed : Addr} {odLMixed anLMixed : Option Addr} {slLMixed : Array (Option Value)} {ocLMixed kVLMixed dcLMixed pmLMixed cdLMixed ctLMixed : Value}
    (aLMixed : PySem.W.nsIn K mainGlobals "_law_mixed" = some (some (.ref fLMixed))) (lLMixed : K.lookup fLMixed = some ⟨ocLMixed, odLMixed, .func (PySem.W.fnOf "_law_mixed" "_law_mixed" (defArgs sLMixed) (defBody sLMixed) (defScope sLMixed) .none kVLMixed dcLMixed pmLMixed anLMixed cdLMixed ctLMixed), slLMixed⟩) (cLMixed : PySem.W.codeIn K cdLMixed "_law_mixed" = true) (kLMixed : PySem.W.keepIn K (.ref fLMixed) = true)
    {fLaw : Addr} {odLaw anLaw : Option Addr} {slLaw : Array (Option Value)} {ocLaw kVLaw dcLaw pmLaw cdLaw ctLaw : Value}
    (aLaw : PySem.W.nsIn K mainGlobals "law" = some (some (.ref fLaw))) (lLaw : K.lookup fLaw = some ⟨ocLaw, odLaw, .func (PySem.W.fnOf "law" "law" (defArgs sLaw) (defBody sLaw) (defScope sLaw) .none kVLaw dcLaw pmLaw anLaw cdLaw ctLaw), slLaw⟩) (cLaw : PySem.W.codeIn K cdLaw "law" = true) (kLaw : PySem.W.keepIn K (.ref fLaw) = true)
    (zlen : PySem.W.nsIn K mainGlobals "len" = some none)
    (zmax : PySem.W.nsIn K mainGlobals "max" = some none)
    (zmin : PySem.W.nsIn K mainGlobals "min" = some none)
    (zabs : PySem.W.nsIn K mainGlobals "abs" = some none)
    (zrange : PySem.W.nsIn K mainGlobals "range" = some none)
    (zint : PySem.W.nsIn K mainGlobals "int" = some none)
    (zlist : PySem.W.nsIn K mainGlobals "list" = some none)
    (ztuple : PySem.W.nsIn K mainGlobals "tuple" = some none)
    (zsum : PySem.W.nsIn K mainGlobals "sum" = some none)
    (zisinstance : PySem.W.nsIn K mainGlobals "isinstance" = some none)
    (zbool : PySem.W.nsIn K mainGlobals "bool" = some none)
    (zdict : PySem.W.nsIn K mainGlobals "dict" = some none)
    (zzip : PySem.W.nsIn K mainGlobals "zip" = some none)
    (zreversed : PySem.W.nsIn K mainGlobals "reversed" = some none)
    (zall : PySem.W.nsIn K mainGlobals "all" = some none)
    (aP : PySem.W.nsIn K mainGlobals "PARTS_OF" = some (some (.ref pd))) (lP : K.lookup pd = some ⟨.type "dict", none, .dict es n, #[]⟩) (tP : PySem.W.KeysLit w.params es.toList) (wP : (pd == sysModules) = false)
    (h1 : PySem.W.nsIn K pd "give" = some (some u1)) (h2 : PySem.W.nsIn K pd "plus" = some (some u2)) (h3 : PySem.W.nsIn K pd "less" = some (some u3)) (h4 : PySem.W.nsIn K pd "times" = some (some u4)) (h5 : PySem.W.nsIn K pd "below" = some (some u5))
    (h6 : PySem.W.nsIn K pd "when" = some (some u6)) (h7 : PySem.W.nsIn K pd "pair" = some (some u7)) (h8 : PySem.W.nsIn K pd "left" = some (some u8)) (h9 : PySem.W.nsIn K pd "right" = some (some u9)) (n1 : PySem.W.nsIn K pd "number" = some none) (n2 : PySem.W.nsIn K pd "name" = some none) (n3 : PySem.W.nsIn K pd "fun" = some none) (n4 : PySem.W.nsIn K pd "shut" = some none)
    {dd : Addr} {esd : Array DictEntry} {ndd : Nat} {q7 : Tok} (aD : PySem.W.nsIn K mainGlobals "DUES" = some (some (.ref dd))) (lD : K.lookup dd = some ⟨.type "dict", none, .dict esd ndd, #[]⟩) (tD : PySem.W.KeysLit w.params esd.toList) (wD : (dd == sysModules) = false)
    (r1 : PySem.W.nsIn K dd "fun" = some (some (.ref fDueOfCall))) (r2 : PySem.W.nsIn K dd "give" = some (some (.ref fDueOfGive))) (r3 : PySem.W.nsIn K dd "let" = some (some (.ref fDueOfLet))) (r4 : PySem.W.nsIn K dd "shut" = some (some (.ref fDueOfShut))) (r5 : PySem.W.nsIn K dd "plus" = some (some (.ref fDueOfTwo))) (r6 : PySem.W.nsIn K dd "less" = some (some (.ref fDueOfTwo))) (r7 : PySem.W.nsIn K dd "times" = some (some (.ref fDueOfTwo))) (r8 : PySem.W.nsIn K dd "below" = some (some (.ref fDueOfTwo))) (r9 : PySem.W.nsIn K dd "when" = some (some (.ref fDueOfWhen))) (r10 : PySem.W.nsIn K dd "left" = some (some (.ref fDueOfSide))) (r11 : PySem.W.nsIn K dd "right" = some (some (.ref fDueOfSide)))
    (gBEYOND : PySem.W.nsIn K mainGlobals "BEYOND" = some (some (.int beyond q7))) :
    ∃ fd : FuncData, (∀ (s : Shared) (v : Value), BindsTo s fd ⟨[v], []⟩ [("_law_script", v)]) ∧ ∀ base : Heap, K.In base → base.Ns mainGlobals mg → FnOk l.prog w K mg base CX0 11 fa fd ["_law_script"] (spLaw K) := by
  have e := hfa.symm.trans (PySem.W.mg_of X G aLaw)
  cases e
  have FFits := fun_mk (st := sFits) lFits cFits kFits
  have bFits := FFits.binds (ps := ["n"]) fun _ _ _ _ _ _ us hl => match us, hl with | [_], _ => rfl
  have mFits := PySem.W.mg_of X G aFits
  have FComeOf := fun_mk (st := sComeOf) lComeOf cComeOf kComeOf
  have bComeOf := FComeOf.binds (ps := ["kind", "a", "b"]) fun _ _ _ _ _ _ us hl => match us, hl with | [_, _, _], _ => rfl
  have mComeOf := PySem.W.mg_of X G aComeOf
  have FWithin := fun_mk (st := sWithin) lWithin cWithin kWithin
  have bWithin := FWithin.binds (ps := ["part"]) fun _ _ _ _ _ _ us hl => match us, hl with | [_], _ => rfl
  have mWithin := PySem.W.mg_of X G aWithin
  have FAllIn := fun_mk (st := sAllIn) lAllIn cAllIn kAllIn
  have bAllIn := FAllIn.binds (ps := ["part"]) fun _ _ _ _ _ _ us hl => match us, hl with | [_], _ => rfl
  have mAllIn := PySem.W.mg_of X G aAllIn
  have FAllFunctions := fun_mk (st := sAllFunctions) lAllFunctions cAllFunctions kAllFunctions
  have bAllFunctions := FAllFunctions.binds (ps := ["program"]) fun _ _ _ _ _ _ us hl => match us, hl with | [_], _ => rfl
  have mAllFunctions := PySem.W.mg_of X G aAllFunctions
  have FNumberOf := fun_mk (st := sNumberOf) lNumberOf cNumberOf kNumberOf
  have bNumberOf := FNumberOf.binds (ps := ["program", "f"]) fun _ _ _ _ _ _ us hl => match us, hl with | [_, _], _ => rfl
  have mNumberOf := PySem.W.mg_of X G aNumberOf
  have FFunctionOf := fun_mk (st := sFunctionOf) lFunctionOf cFunctionOf kFunctionOf
  have bFunctionOf := FFunctionOf.binds (ps := ["program", "f"]) fun _ _ _ _ _ _ us hl => match us, hl with | [_, _], _ => rfl
  have mFunctionOf := PySem.W.mg_of X G aFunctionOf
  have FWants := fun_mk (st := sWants) lWants cWants kWants
  have bWants := FWants.binds (ps := ["program", "f"]) fun _ _ _ _ _ _ us hl => match us, hl with | [_, _], _ => rfl
  have mWants := PySem.W.mg_of X G aWants
  have FMostWanted := fun_mk (st := sMostWanted) lMostWanted cMostWanted kMostWanted
  have bMostWanted := FMostWanted.binds (ps := ["program"]) fun _ _ _ _ _ _ us hl => match us, hl with | [_], _ => rfl
  have mMostWanted := PySem.W.mg_of X G aMostWanted
  have FMadeOf := fun_mk (st := sMadeOf) lMadeOf cMadeOf kMadeOf
  have bMadeOf := FMadeOf.binds (ps := ["part", "inner", "things"]) fun _ _ _ _ _ _ us hl => match us, hl with | [_, _, _], _ => rfl
  have mMadeOf := PySem.W.mg_of X G aMadeOf
  have FPutIn := fun_mk (st := sPutIn) lPutIn cPutIn kPutIn
  have bPutIn := FPutIn.binds (ps := ["part", "things"]) fun _ _ _ _ _ _ us hl => match us, hl with | [_, _], _ => rfl
  have mPutIn := PySem.W.mg_of X G aPutIn
  have FGiven := fun_mk (st := sGiven) lGiven cGiven kGiven
  have bGiven := FGiven.binds (ps := ["part"]) fun _ _ _ _ _ _ us hl => match us, hl with | [_], _ => rfl
  have mGiven := PySem.W.mg_of X G aGiven
  have FIsWorth := fun_mk (st := sIsWorth) lIsWorth cIsWorth kIsWorth
  have bIsWorth := FIsWorth.binds (ps := ["program", "part"]) fun _ _ _ _ _ _ us hl => match us, hl with | [_, _], _ => rfl
  have mIsWorth := PySem.W.mg_of X G aIsWorth
  have FDueOfCall := fun_mk (st := sDueOfCall) lDueOfCall cDueOfCall kDueOfCall
  have bDueOfCall := FDueOfCall.binds (ps := ["program", "part"]) fun _ _ _ _ _ _ us hl => match us, hl with | [_, _], _ => rfl
  have mDueOfCall := PySem.W.mg_of X G aDueOfCall
  have FDueOfGive := fun_mk (st := sDueOfGive) lDueOfGive cDueOfGive kDueOfGive
  have bDueOfGive := FDueOfGive.binds (ps := ["program", "part"]) fun _ _ _ _ _ _ us hl => match us, hl with | [_, _], _ => rfl
  have mDueOfGive := PySem.W.mg_of X G aDueOfGive
  have FDueOfLet := fun_mk (st := sDueOfLet) lDueOfLet cDueOfLet kDueOfLet
  have bDueOfLet := FDueOfLet.binds (ps := ["program", "part"]) fun _ _ _ _ _ _ us hl => match us, hl with | [_, _], _ => rfl
  have mDueOfLet := PySem.W.mg_of X G aDueOfLet
  have FDueOfShut := fun_mk (st := sDueOfShut) lDueOfShut cDueOfShut kDueOfShut
  have bDueOfShut := FDueOfShut.binds (ps := ["program", "part"]) fun _ _ _ _ _ _ us hl => match us, hl with | [_, _], _ => rfl
  have mDueOfShut := PySem.W.mg_of X G aDueOfShut
  have FDueOfTwo := fun_mk (st := sDueOfTwo) lDueOfTwo cDueOfTwo kDueOfTwo
  have bDueOfTwo := FDueOfTwo.binds (ps := ["program", "part"]) fun _ _ _ _ _ _ us hl => match us, hl with | [_, _], _ => rfl
  have mDueOfTwo := PySem.W.mg_of X G aDueOfTwo
  have FDueOfWhen := fun_mk (st := sDueOfWhen) lDueOfWhen cDueOfWhen kDueOfWhen
  have bDueOfWhen := FDueOfWhen.binds (ps := ["program", "part"]) fun _ _ _ _ _ _ us hl => match us, hl with | [_, _], _ => rfl
  have mDueOfWhen := PySem.W.mg_of X G aDueOfWhen
  have FDueOfSide := fun_mk (st := sDueOfSide) lDueOfSide cDueOfSide kDueOfSide
  have bDueOfSide := FDueOfSide.binds (ps := ["program", "part"]) fun _ _ _ _ _ _ us hl => match us, hl with | [_, _], _ => rfl
  have mDueOfSide := PySem.W.mg_of X G aDueOfSide
  have FDue := fun_mk (st := sDue) lDue cDue kDue
  have bDue := FDue.binds (ps := ["program", "part"]) fun _ _ _ _ _ _ us hl => match us, hl with | [_, _], _ => rfl
  have mDue := PySem.W.mg_of X G aDue
  have FPutBack := fun_mk (st := sPutBack) lPutBack cPutBack kPutBack
  have bPutBack := FPutBack.binds (ps := ["part", "outer", "at"]) fun _ _ _ _ _ _ us hl => match us, hl with | [_, _, _], _ => rfl
  have mPutBack := PySem.W.mg_of X G aPutBack
  have FGoToStep := fun_mk (st := sGoToStep) lGoToStep cGoToStep kGoToStep
  have bGoToStep := FGoToStep.binds (ps := ["program", "part", "around"]) fun _ _ _ _ _ _ us hl => match us, hl with | [_, _, _], _ => rfl
  have mGoToStep := PySem.W.mg_of X G aGoToStep
  have FComeTo := fun_mk (st := sComeTo) lComeTo cComeTo kComeTo
  have bComeTo := FComeTo.binds (ps := ["program", "part", "most"]) fun _ _ _ _ _ _ us hl => match us, hl with | [_, _, _], _ => rfl
  have mComeTo := PySem.W.mg_of X G aComeTo
  have FFlat := fun_mk (st := sFlat) lFlat cFlat kFlat
  have bFlat := FFlat.binds (ps := ["come"]) fun _ _ _ _ _ _ us hl => match us, hl with | [_], _ => rfl
  have mFlat := PySem.W.mg_of X G aFlat
  have FLed := fun_mk (st := sLed) lLed cLed kLed
  have bLed := FLed.binds (ps := ["program", "part", "most"]) fun _ _ _ _ _ _ us hl => match us, hl with | [_, _, _], _ => rfl
  have mLed := PySem.W.mg_of X G aLed
  have FLPen := fun_mk (st := sLPen) lLPen cLPen kLPen
  have bLPen := FLPen.binds (ps := ["_law_script"]) fun _ _ _ _ _ _ us hl => match us, hl with | [_], _ => rfl
  have mLPen := PySem.W.mg_of X G aLPen
  have FLDraw := fun_mk (st := sLDraw) lLDraw cLDraw kLDraw
  have bLDraw := FLDraw.binds (ps := ["_law_pen_here", "_law_many"]) fun _ _ _ _ _ _ us hl => match us, hl with | [_, _], _ => rfl
  have mLDraw := PySem.W.mg_of X G aLDraw
  have FLCalled := fun_mk (st := sLCalled) lLCalled cLCalled kLCalled
  have bLCalled := FLCalled.binds (ps := ["_law_program", "_law_f", "_law_given"]) fun _ _ _ _ _ _ us hl => match us, hl with | [_, _, _], _ => rfl
  have mLCalled := PySem.W.mg_of X G aLCalled
  have FLWants := fun_mk (st := sLWants) lLWants cLWants kLWants
  have bLWants := FLWants.binds (ps := ["_law_program", "_law_f"]) fun _ _ _ _ _ _ us hl => match us, hl with | [_, _], _ => rfl
  have mLWants := PySem.W.mg_of X G aLWants
  have FLInto := fun_mk (st := sLInto) lLInto cLInto kLInto
  have bLInto := FLInto.binds (ps := ["_law_program", "_law_here", "_law_frames", "_law_words"]) fun _ _ _ _ _ _ us hl => match us, hl with | [_, _, _, _], _ => rfl
  have mLInto := PySem.W.mg_of X G aLInto
  have FLSecond := fun_mk (st := sLSecond) lLSecond cLSecond kLSecond
  have bLSecond := FLSecond.binds (ps := ["_law_kind", "_law_one", "_law_worth", "_law_words"]) fun _ _ _ _ _ _ us hl => match us, hl with | [_, _, _, _], _ => rfl
  have mLSecond := PySem.W.mg_of X G aLSecond
  have FLOut := fun_mk (st := sLOut) lLOut cLOut kLOut
  have bLOut := FLOut.binds (ps := ["_law_program", "_law_frame", "_law_worth", "_law_frames", "_law_words"]) fun _ _ _ _ _ _ us hl => match us, hl with | [_, _, _, _, _], _ => rfl
  have mLOut := PySem.W.mg_of X G aLOut
  have FLCome := fun_mk (st := sLCome) lLCome cLCome kLCome
  have bLCome := FLCome.binds (ps := ["_law_program", "_law_here", "_law_most"]) fun _ _ _ _ _ _ us hl => match us, hl with | [_, _, _], _ => rfl
  have mLCome := PySem.W.mg_of X G aLCome
  have FLEnd := fun_mk (st := sLEnd) lLEnd cLEnd kLEnd
  have bLEnd := FLEnd.binds (ps := ["_law_pen_here"]) fun _ _ _ _ _ _ us hl => match us, hl with | [_], _ => rfl
  have mLEnd := PySem.W.mg_of X G aLEnd
  have FLMixed := fun_mk (st := sLMixed) lLMixed cLMixed kLMixed
  have bLMixed := FLMixed.binds (ps := ["_law_pen_here", "_law_deep", "_law_stock"]) fun _ _ _ _ _ _ us hl => match us, hl with | [_, _, _], _ => rfl
  have mLMixed := PySem.W.mg_of X G aLMixed
  have FLaw := fun_mk (st := sLaw) lLaw cLaw kLaw
  have bLaw := FLaw.binds (ps := ["_law_script"]) fun _ _ _ _ _ _ us hl => match us, hl with | [_], _ => rfl
  have mLaw := PySem.W.mg_of X G aLaw
  have B : Bt mg := ⟨PySem.W.mg_none_of X G zlen, PySem.W.mg_none_of X G zmax, PySem.W.mg_none_of X G zmin, PySem.W.mg_none_of X G zabs, PySem.W.mg_none_of X G zrange, PySem.W.mg_none_of X G zint, PySem.W.mg_none_of X G zlist, PySem.W.mg_none_of X G ztuple, PySem.W.mg_none_of X G zsum, PySem.W.mg_none_of X G zisinstance⟩
  refine ⟨PySem.W.fnOf "law" "law" (defArgs sLaw) (defBody sLaw) (defScope sLaw) .none kVLaw dcLaw pmLaw anLaw cdLaw ctLaw, fun s v => .of_eq rfl, fun base _ _ => ?_⟩
  have DK : KDict K w pd es n := ⟨lP, tP, wP⟩
  have O := po_mk h1 h2 h3 h4 h5 h6 h7 h8 h9 n1 n2 n3
  have CLDraw := cal_mk (P := l.prog) (w := w) (base := base) FLDraw (ok_draw FLDraw B) mLDraw bLDraw
  have CLPen := cal_mk (P := l.prog) (w := w) (base := base) FLPen (ok_pen FLPen B) mLPen bLPen
  have CWithin := cal_mk (P := l.prog) (w := w) (base := base) FWithin (ok_win FWithin B (PySem.W.mg_of X G aP) DK ⟨O, n4⟩) mWithin bWithin
  have CAllIn := cal_mk (P := l.prog) (w := w) (K := K) (base := base) FAllIn (ok_alw FAllIn CWithin) mAllIn bAllIn
  have CMadeOf := cal_mk (P := l.prog) (w := w) (K := K) (base := base) FMadeOf (ok_made FMadeOf B (PySem.W.mg_none_of X G zzip)) mMadeOf bMadeOf
  have CPutIn := cal_mk (P := l.prog) (w := w) (K := K) (base := base) FPutIn (ok_putIn FPutIn (PySem.W.mg_none_of X G zreversed) CWithin CAllIn CMadeOf) mPutIn bPutIn
  have mzip := PySem.W.mg_none_of X G zzip
  have mdict := PySem.W.mg_none_of X G zdict
  have mBEYOND := PySem.W.mg_of X G gBEYOND
  have DD : KDict K w dd esd ndd := ⟨lD, tD, wD⟩
  have CAllFunctions := cal_mk (P := l.prog) (w := w) (K := K) (base := base) FAllFunctions (ok_funs FAllFunctions) mAllFunctions bAllFunctions
  have CNumberOf := cal_mk (P := l.prog) (w := w) (K := K) (base := base) FNumberOf (ok_numOf FNumberOf CAllFunctions) mNumberOf bNumberOf
  have CFunctionOf := cal_mk (P := l.prog) (w := w) (K := K) (base := base) FFunctionOf (ok_funOf FFunctionOf CAllFunctions CNumberOf) mFunctionOf bFunctionOf
  have CWants := cal_mk (P := l.prog) (w := w) (K := K) (base := base) FWants (ok_wants FWants B CFunctionOf) mWants bWants
  have CMostWanted := cal_mk (P := l.prog) (w := w) (K := K) (base := base) FMostWanted (ok_most FMostWanted B) mMostWanted bMostWanted
  have CIsWorth := cal_mk (P := l.prog) (w := w) (K := K) (base := base) FIsWorth ((ok_worth FIsWorth CMostWanted CWants).imp (sp' := spIsW K) fun _ _ _ _ h => isW_of h) mIsWorth bIsWorth
  have CGiven := cal_mk (P := l.prog) (w := w) (K := K) (base := base) FGiven (ok_given FGiven) mGiven bGiven
  have okCall := ok_dueCall (P := l.prog) (w := w) (K := K) (base := base) FDueOfCall mdict mzip CGiven CFunctionOf CPutIn
  have CDueOfCall := cal_mk FDueOfCall okCall mDueOfCall bDueOfCall
  have CFits := cal_mk (P := l.prog) (w := w) (K := K) (base := base) FFits (ok_fitP FFits B.abs mBEYOND) mFits bFits
  have CComeOf := cal_mk (P := l.prog) (w := w) (K := K) (base := base) FComeOf (ok_come FComeOf CFits) mComeOf bComeOf
  have R := rules_mk (P := l.prog) (w := w) (mg := mg) (base := base) ⟨_, _, (okCall.imp (sp' := spRule K ["fun"]) fun _ _ _ _ h => rule_fun h).mono (by omega), kDueOfCall, bDueOfCall⟩ ⟨_, _, ok_dueGive FDueOfGive CIsWorth CDueOfCall, kDueOfGive, bDueOfGive⟩ ⟨_, _, (ok_dueLet FDueOfLet CPutIn).mono (by omega), kDueOfLet, bDueOfLet⟩ ⟨_, _, (ok_dueShut FDueOfShut).mono (by omega), kDueOfShut, bDueOfShut⟩ ⟨_, _, ok_dueTwo FDueOfTwo CIsWorth CComeOf, kDueOfTwo, bDueOfTwo⟩ ⟨_, _, ok_dueWhen FDueOfWhen CIsWorth, kDueOfWhen, bDueOfWhen⟩ ⟨_, _, ok_dueSide FDueOfSide CIsWorth, kDueOfSide, bDueOfSide⟩
    (by
      simp only [List.nodup_cons, List.mem_cons, List.not_mem_nil, or_false, not_or, not_false_eq_true, List.nodup_nil, and_true]
      refine ⟨⟨?_, ?_, ?_, ?_, ?_, ?_⟩, ⟨?_, ?_, ?_, ?_, ?_⟩, ⟨?_, ?_, ?_, ?_⟩, ⟨?_, ?_, ?_⟩, ⟨?_, ?_⟩, ?_⟩
      · exact apart_fn lDueOfCall lDueOfGive (show ("due_of_call" : Str) ≠ "due_of_give" by decide +kernel)
      · exact apart_fn lDueOfCall lDueOfLet (show ("due_of_call" : Str) ≠ "due_of_let" by decide +kernel)
      · exact apart_fn lDueOfCall lDueOfShut (show ("due_of_call" : Str) ≠ "due_of_shut" by decide +kernel)
      · exact apart_fn lDueOfCall lDueOfTwo (show ("due_of_call" : Str) ≠ "due_of_two" by decide +kernel)
      · exact apart_fn lDueOfCall lDueOfWhen (show ("due_of_call" : Str) ≠ "due_of_when" by decide +kernel)
      · exact apart_fn lDueOfCall lDueOfSide (show ("due_of_call" : Str) ≠ "due_of_side" by decide +kernel)
      · exact apart_fn lDueOfGive lDueOfLet (show ("due_of_give" : Str) ≠ "due_of_let" by decide +kernel)
      · exact apart_fn lDueOfGive lDueOfShut (show ("due_of_give" : Str) ≠ "due_of_shut" by decide +kernel)
      · exact apart_fn lDueOfGive lDueOfTwo (show ("due_of_give" : Str) ≠ "due_of_two" by decide +kernel)
      · exact apart_fn lDueOfGive lDueOfWhen (show ("due_of_give" : Str) ≠ "due_of_when" by decide +kernel)
      · exact apart_fn lDueOfGive lDueOfSide (show ("due_of_give" : Str) ≠ "due_of_side" by decide +kernel)
      · exact apart_fn lDueOfLet lDueOfShut (show ("due_of_let" : Str) ≠ "due_of_shut" by decide +kernel)
      · exact apart_fn lDueOfLet lDueOfTwo (show ("due_of_let" : Str) ≠ "due_of_two" by decide +kernel)
      · exact apart_fn lDueOfLet lDueOfWhen (show ("due_of_let" : Str) ≠ "due_of_when" by decide +kernel)
      · exact apart_fn lDueOfLet lDueOfSide (show ("due_of_let" : Str) ≠ "due_of_side" by decide +kernel)
      · exact apart_fn lDueOfShut lDueOfTwo (show ("due_of_shut" : Str) ≠ "due_of_two" by decide +kernel)
      · exact apart_fn lDueOfShut lDueOfWhen (show ("due_of_shut" : Str) ≠ "due_of_when" by decide +kernel)
      · exact apart_fn lDueOfShut lDueOfSide (show ("due_of_shut" : Str) ≠ "due_of_side" by decide +kernel)
      · exact apart_fn lDueOfTwo lDueOfWhen (show ("due_of_two" : Str) ≠ "due_of_when" by decide +kernel)
      · exact apart_fn lDueOfTwo lDueOfSide (show ("due_of_two" : Str) ≠ "due_of_side" by decide +kernel)
      · exact apart_fn lDueOfWhen lDueOfSide (show ("due_of_when" : Str) ≠ "due_of_side" by decide +kernel))
    r1 r2 r3 r4 r5 r6 r7 r8 r9 r10 r11
  have CDue := cal_mk (P := l.prog) (w := w) (K := K) (base := base) FDue (ok_due FDue (PySem.W.mg_of X G aD) DD R CIsWorth) mDue bDue
  have CPutBack := cal_mk (P := l.prog) (w := w) (K := K) (base := base) FPutBack (ok_putBack FPutBack) mPutBack bPutBack
  have CGoToStep := cal_mk (P := l.prog) (w := w) (K := K) (base := base) FGoToStep (ok_go FGoToStep CDue CPutBack) mGoToStep bGoToStep
  have CLWants := cal_mk (P := l.prog) (w := w) (K := K) (base := base) FLWants (ok_lwants FLWants B) mLWants bLWants
  have CComeTo := cal_mk (P := l.prog) (w := w) (K := K) (base := base) FComeTo (ok_comeTo FComeTo B CGoToStep) mComeTo bComeTo
  have CFlat := cal_mk (P := l.prog) (w := w) (K := K) (base := base) FFlat (ok_flat FFlat B CGiven) mFlat bFlat
  have CLed := cal_mk (P := l.prog) (w := w) (K := K) (base := base) FLed (ok_led FLed CComeTo CFlat) mLed bLed
  have CLCalled := cal_mk (P := l.prog) (w := w) (K := K) (base := base) FLCalled (ok_lcalled FLCalled mzip) mLCalled bLCalled
  have CLInto := cal_mk (P := l.prog) (w := w) (K := K) (base := base) FLInto (ok_linto FLInto B mdict CLWants CLCalled) mLInto bLInto
  have CLSecond := cal_mk (P := l.prog) (w := w) (K := K) (base := base) FLSecond (ok_lsecond FLSecond B) mLSecond bLSecond
  have CLOut := cal_mk (P := l.prog) (w := w) (K := K) (base := base) FLOut (ok_lout FLOut B CLSecond CLWants CLCalled) mLOut bLOut
  have CLCome := cal_mk (P := l.prog) (w := w) (K := K) (base := base) FLCome (ok_lcome FLCome B CLInto CLOut) mLCome bLCome
  have CLEnd := cal_mk (P := l.prog) (w := w) (K := K) (base := base) FLEnd (ok_end FLEnd B CLDraw) mLEnd bLEnd
  have mixes : ∀ k, C8.Cal l.prog w K mg base (2 + k) "_law_mixed" (spMixed K k) [] := fun k => by
    induction k with
    | zero => exact cal_mk FLMixed no_mixed mLMixed bLMixed
    | succ k ih => exact cal_mk FLMixed (ok_mixed (Nat.le_add_right 2 k) FLMixed B CLDraw CLEnd ih) mLMixed bLMixed
  exact ok_law FLaw B CLPen CLDraw (mixes 3) CLCome CLed
end Lz
open PySem PySem.W PyProof.Rows
set_option maxRecDepth 100000 in
set_option maxHeartbeats 0 in
theorem PySem.Challenge.cw_lazywebs_k11_faults_in_their_order_holds : PySem.Challenge.rw_lazywebs_k11_faults_in_their_order.Holds := by
  w_on; o_law; k_head; (case hw => w_witness2)
  k_fill
  refine L2.walk_of (l := PySem.Challenge.rw_lazywebs_k11_faults_in_their_order) (n := 63) (k := 11) (x := "_law_script") (CX := fun _ => L2.CX0) (sp := fun w => Lz.spLaw _) rfl (by decide) rfl ⟨rfl, by decide, by decide⟩ (fun w h Y => PySem.W.kIn_of Y) ?F (fun _ _ a ns hl _ hS => ⟨a, ns, rfl, hS, hl, fun _ => rfl⟩) (fun _ _ _ _ _ h => h)
  case F =>
    intro w mg fa h KX G hmg
    refine' Lz.all_mk KX G hmg ?aFits ?lFits ?cFits ?kFits ?aComeOf ?lComeOf ?cComeOf ?kComeOf ?aWithin ?lWithin ?cWithin ?kWithin ?aAllIn ?lAllIn ?cAllIn ?kAllIn ?aAllFunctions ?lAllFunctions ?cAllFunctions ?kAllFunctions ?aNumberOf ?lNumberOf ?cNumberOf ?kNumberOf ?aFunctionOf ?lFunctionOf ?cFunctionOf ?kFunctionOf ?aWants ?lWants ?cWants ?kWants ?aMostWanted ?lMostWanted ?cMostWanted ?kMostWanted ?aMadeOf ?lMadeOf ?cMadeOf ?kMadeOf ?aPutIn ?lPutIn ?cPutIn ?kPutIn ?aGiven ?lGiven ?cGiven ?kGiven ?aIsWorth ?lIsWorth ?cIsWorth ?kIsWorth ?aDueOfCall ?lDueOfCall ?cDueOfCall ?kDueOfCall ?aDueOfGive ?lDueOfGive ?cDueOfGive ?kDueOfGive ?aDueOfLet ?lDueOfLet ?cDueOfLet ?kDueOfLet ?aDueOfShut ?lDueOfShut ?cDueOfShut ?kDueOfShut ?aDueOfTwo ?lDueOfTwo ?cDueOfTwo ?kDueOfTwo ?aDueOfWhen ?lDueOfWhen ?cDueOfWhen ?kDueOfWhen ?aDueOfSide ?lDueOfSide ?cDueOfSide ?kDueOfSide ?aDue ?lDue ?cDue ?kDue ?aPutBack ?lPutBack ?cPutBack ?kPutBack ?aGoToStep ?lGoToStep ?cGoToStep ?kGoToStep ?aComeTo ?lComeTo ?cComeTo ?kComeTo ?aFlat ?lFlat ?cFlat ?kFlat ?aLed ?lLed ?cLed ?kLed ?aLPen ?lLPen ?cLPen ?kLPen ?aLDraw ?lLDraw ?cLDraw ?kLDraw ?aLCalled ?lLCalled ?cLCalled ?kLCalled ?aLWants ?lLWants ?cLWants ?kLWants ?aLInto ?lLInto ?cLInto ?kLInto ?aLSecond ?lLSecond ?cLSecond ?kLSecond ?aLOut ?lLOut ?cLOut ?kLOut ?aLCome ?lLCome ?cLCome ?kLCome ?aLEnd ?lLEnd ?cLEnd ?kLEnd ?aLMixed ?lLMixed ?cLMixed ?kLMixed ?aLaw ?lLaw ?cLaw ?kLaw ?zlen ?zmax ?zmin ?zabs ?zrange ?zint ?zlist ?ztuple ?zsum ?zisinstance ?zbool ?zdict ?zzip ?zreversed ?zall ?aP ?lP ?tP ?wP ?h1 ?h2 ?h3 ?h4 ?h5 ?h6 ?h7 ?h8 ?h9 ?n1 ?n2 ?n3 ?n4 ?aD ?lD ?tD ?wD ?r1 ?r2 ?r3 ?r4 ?r5 ?r6 ?r7 ?r8 ?r9 ?r10 ?r11 ?gBEYOND
    (case aFits => k_is); (case lFits => k_is); (case cFits => k_is); (case kFits => k_is)
    (case aComeOf => k_is); (case lComeOf => k_is); (case cComeOf => k_is); (case kComeOf => k_is)
    (case aWithin => k_is); (case lWithin => k_is); (case cWithin => k_is); (case kWithin => k_is)
    (case aAllIn => k_is); (case lAllIn => k_is); (case cAllIn => k_is); (case kAllIn => k_is)
    (case aAllFunctions => k_is); (case lAllFunctions => k_is); (case cAllFunctions => k_is); (case kAllFunctions => k_is)
    (case aNumberOf => k_is); (case lNumberOf => k_is); (case cNumberOf => k_is); (case kNumberOf => k_is)
    (case aFunctionOf => k_is); (case lFunctionOf => k_is); (case cFunctionOf => k_is); (case kFunctionOf => k_is)
    (case aWants => k_is); (case lWants => k_is); (case cWants => k_is); (case kWants => k_is)
    (case aMostWanted => k_is); (case lMostWanted => k_is); (case cMostWanted => k_is); (case kMostWanted => k_is)
    (case aMadeOf => k_is); (case lMadeOf => k_is); (case cMadeOf => k_is); (case kMadeOf => k_is)
    (case aPutIn => k_is); (case lPutIn => k_is); (case cPutIn => k_is); (case kPutIn => k_is)
    (case aGiven => k_is); (case lGiven => k_is); (case cGiven => k_is); (case kGiven => k_is)
    (case aIsWorth => k_is); (case lIsWorth => k_is); (case cIsWorth => k_is); (case kIsWorth => k_is)
    (case aDueOfCall => k_is); (case lDueOfCall => k_is); (case cDueOfCall => k_is); (case kDueOfCall => k_is)
    (case aDueOfGive => k_is); (case lDueOfGive => k_is); (case cDueOfGive => k_is); (case kDueOfGive => k_is)
    (case aDueOfLet => k_is); (case lDueOfLet => k_is); (case cDueOfLet => k_is); (case kDueOfLet => k_is)
    (case aDueOfShut => k_is); (case lDueOfShut => k_is); (case cDueOfShut => k_is); (case kDueOfShut => k_is)
    (case aDueOfTwo => k_is); (case lDueOfTwo => k_is); (case cDueOfTwo => k_is); (case kDueOfTwo => k_is)
    (case aDueOfWhen => k_is); (case lDueOfWhen => k_is); (case cDueOfWhen => k_is); (case kDueOfWhen => k_is)
    (case aDueOfSide => k_is); (case lDueOfSide => k_is); (case cDueOfSide => k_is); (case kDueOfSide => k_is)
    (case aDue => k_is); (case lDue => k_is); (case cDue => k_is); (case kDue => k_is)
    (case aPutBack => k_is); (case lPutBack => k_is); (case cPutBack => k_is); (case kPutBack => k_is)
    (case aGoToStep => k_is); (case lGoToStep => k_is); (case cGoToStep => k_is); (case kGoToStep => k_is)
    (case aComeTo => k_is); (case lComeTo => k_is); (case cComeTo => k_is); (case kComeTo => k_is)
    (case aFlat => k_is); (case lFlat => k_is); (case cFlat => k_is); (case kFlat => k_is)
    (case aLed => k_is); (case lLed => k_is); (case cLed => k_is); (case kLed => k_is)
    (case aLPen => k_is); (case lLPen => k_is); (case cLPen => k_is); (case kLPen => k_is)
    (case aLDraw => k_is); (case lLDraw => k_is); (case cLDraw => k_is); (case kLDraw => k_is)
    (case aLCalled => k_is); (case lLCalled => k_is); (case cLCalled => k_is); (case kLCalled => k_is)
    (case aLWants => k_is); (case lLWants => k_is); (case cLWants => k_is); (case kLWants => k_is)
    (case aLInto => k_is); (case lLInto => k_is); (case cLInto => k_is); (case kLInto => k_is)
    (case aLSecond => k_is); (case lLSecond => k_is); (case cLSecond => k_is); (case kLSecond => k_is)
    (case aLOut => k_is); (case lLOut => k_is); (case cLOut => k_is); (case kLOut => k_is)
    (case aLCome => k_is); (case lLCome => k_is); (case cLCome => k_is); (case kLCome => k_is)
    (case aLEnd => k_is); (case lLEnd => k_is); (case cLEnd => k_is); (case kLEnd => k_is)
    (case aLMixed => k_is); (case lLMixed => k_is); (case cLMixed => k_is); (case kLMixed => k_is)
    (case aLaw => k_is); (case lLaw => k_is); (case cLaw => k_is); (case kLaw => k_is)
    (case zlen => k_is)
    (case zmax => k_is)
    (case zmin => k_is)
    (case zabs => k_is)
    (case zrange => k_is)
    (case zint => k_is)
    (case zlist => k_is)
    (case ztuple => k_is)
    (case zsum => k_is)
    (case zisinstance => k_is)
    (case zbool => k_is)
    (case zdict => k_is)
    (case zzip => k_is)
    (case zreversed => k_is)
    (case zall => k_is)
    (case aP => k_is); (case lP => k_is)
    (case tP => exact ⟨⟨_, _, rfl, rfl⟩, ⟨_, _, rfl, rfl⟩, ⟨_, _, rfl, rfl⟩, ⟨_, _, rfl, rfl⟩, ⟨_, _, rfl, rfl⟩, ⟨_, _, rfl, rfl⟩, ⟨_, _, rfl, rfl⟩, ⟨_, _, rfl, rfl⟩, ⟨_, _, rfl, rfl⟩, True.intro⟩)
    (case wP => rfl)
    (case h1 => k_is); (case h2 => k_is); (case h3 => k_is); (case h4 => k_is); (case h5 => k_is); (case h6 => k_is); (case h7 => k_is); (case h8 => k_is); (case h9 => k_is)
    (case aD => k_is); (case lD => k_is)
    (case tD => exact ⟨⟨_, _, rfl, rfl⟩, ⟨_, _, rfl, rfl⟩, ⟨_, _, rfl, rfl⟩, ⟨_, _, rfl, rfl⟩, ⟨_, _, rfl, rfl⟩, ⟨_, _, rfl, rfl⟩, ⟨_, _, rfl, rfl⟩, ⟨_, _, rfl, rfl⟩, ⟨_, _, rfl, rfl⟩, ⟨_, _, rfl, rfl⟩, ⟨_, _, rfl, rfl⟩, True.intro⟩)
    (case wD => rfl)
    (case r1 => k_is); (case r2 => k_is); (case r3 => k_is); (case r4 => k_is); (case r5 => k_is); (case r6 => k_is); (case r7 => k_is); (case r8 => k_is); (case r9 => k_is); (case r10 => k_is); (case r11 => k_is)
    (case gBEYOND => k_is)
    (case n1 => k_is); (case n2 => k_is); (case n3 => k_is); (case n4 => k_is)

