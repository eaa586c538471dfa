from tests.books import ODD_VALUES
from tests.cases import Case
from tests.test_maps import MAP
from unsewn.maptexts import map_lines


class TestMapLines(Case):
    def test_a_map(self):
        self.assert_exact(map_lines(MAP), ("0: 0 8 5 3", "1: 1 6 3 4", "2: 2 7 4 5", "3: 6 0", "4: 7 1", "5: 8 2"))

    def test_any_chart_will_do(self):
        self.assert_exact(map_lines((((0,),), ((0,),))), ("0: 0",))
        self.assert_exact(map_lines((((0, 3),), ((1, 0, 1),))), ("0 3: 1 0 1",))
        self.assert_exact(map_lines((((10, 9, 9), (7,)), ((100,), (0, 10 ** 59)))), ("10 9 9: 100", "7: 0 1" + "0" * 59))

    def test_refusals(self):
        for wrong in ODD_VALUES + (
            ((), ()), (((0,),), ()), (((0,),), ((1,), (2,))), (((),), ((1,),)), (((0,),), ((),)), (((0,), ()), ((1,), (2,))),
            (((0,),), ((1,),), ()), [((0,),), ((1,),)], ([(0,)], ((1,),)), (((0,),), [(1,)]), (([0],), ((1,),)),
            (((0,),), ([1],)), (((True,),), ((1,),)), (((0,),), ((-1,),)), (((0,),), (("1",),)), (((0,),), ((None,),)), ((0,), (1,)),
            (((0,),),), (((0,),), None), (((0, (1,)),), ((1,),)),
        ):
            self.assert_not_usable("chart", map_lines, wrong)
        self.assert_exact(map_lines(chart=MAP), map_lines(MAP))
