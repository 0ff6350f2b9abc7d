"""Everything that the document names is there, with the arguments that it names."""

import importlib
import inspect
import unittest

INTERFACE = {
    "programs": "right(program)",
    "texts": "read(text) show(program)",
    "values": "fits(shape,thing) size_of(shape,value)",
    "runs": "trace(program,name,args,most=1000)",
    "tables": "plain_table() price_of(steps,table)",
    "ways": "own_prices(calls,steps,table) whole_prices(calls,steps,table) by_way(calls,steps,table) by_kind(steps,table)"
            " room_of(calls,table)",
    "ratios": "ratio(top,bottom) plus(one,other) minus(one,other) times(one,other) over(one,other) under(one,other)",
    "sums": "gathered(parts) added(one,other) scaled(one,by) value_at(one,sizes) covers(one,other) laid(one,lines,many)"
            " line_at(line,sizes) line_laid(line,lines,many)",
    "least": "least(costs,rows)",
    "paths": "paths_of(program,name)",
    "papers": "fault_of(program,table,paper) bound_of(program,paper,name,args)",
    "finds": "rows_for(program,table,power,kind='price') find(program,table,power,size,kind='price')",
    "near": "dearest(program,table,name,sizes,numbers,most=1000) gap(program,table,paper,name,sizes,numbers,most=1000)",
    "sides": "side_by_side(program,table,one,other,end,numbers,most=1000) above_from(one,other)",
    "args": "read_arg(shape,text) show_arg(shape,value) show_ratio(one)",
    "desk": "Desk()",
}


class Interface(unittest.TestCase):
    def test_each_name_with_its_arguments(self):
        for module, rows in INTERFACE.items():
            for row in rows.split(" "):
                with self.subTest(module + "." + row):
                    name = row.partition("(")[0]
                    told = inspect.signature(getattr(importlib.import_module("toll." + module), name))
                    self.assertEqual(name + str(told).replace(" ", ""), row)

    def test_the_desk_is_told_a_row(self):
        desk = importlib.import_module("toll.desk").Desk()
        self.assertEqual(str(inspect.signature(desk.say)), "(row)")


if __name__ == "__main__":
    unittest.main()
