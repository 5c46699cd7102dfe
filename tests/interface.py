"""The functions of the interface that have landed, with the names of their arguments."""

FUNCTIONS = {
    "bags": {"bags": "values size", "count_bags": "values size", "bag_index": "values bag", "added": "bag value",
             "removed": "bag value"},
    "boards": {"like_bags": "board", "renamed": "board", "count_board": "values size", "tells_no_less": "one other",
               "parting_bags": "one other", "is_parting_bags": "one other value", "both": "one other",
               "read_board": "line"},
    "matches": {"match_of": "board one other", "matches_with": "board change"},
    "blocks": {"blocks": "board", "block_of": "board change", "block_chain": "board one other",
               "is_block_chain": "board one other value", "even": "board", "uneven": "board",
               "is_uneven": "board value", "kinds": "board", "seen": "board", "unseen": "board",
               "is_unseen": "board value", "sharp": "board", "unsharp": "board", "is_unsharp": "board value",
               "same_values": "board", "merged": "board"},
    "counters": {"kind_of": "board change", "same_kind": "board one other", "next_sign": "board sign kind",
                 "kind_between": "board sign other", "inverse": "board kind", "composed": "board kind other",
                 "is_counter": "board value"},
    "logs": {"walk": "board bag steps", "log_kinds": "board signs", "log_signs": "board sign kinds"},
    "moves": {"moves": "board", "is_move": "board value", "mover": "board one other", "circles_of": "board",
              "moved": "board bag move", "keeping": "board", "sign_moved": "board sign move", "hiding": "board",
              "hiding_trades": "board"},
    "adding": {"number_of_signs": "board", "number_of_kinds": "board", "adding": "board", "added_up": "board bag",
               "sum_boards": "values"},
    "dials": {"dials_board": "dials size", "difference": "dials one other", "same_marks": "dials", "twice": "dials",
              "is_twice": "dials value"},
    "shifts": {"shifts": "dials values", "shifted": "dials value shift", "parting_counts": "one other",
               "is_parting_counts": "one other value"},
    "caps": {"caps_board": "caps size", "least_caps": "caps", "cheap_sharp": "values"},
    "shadows": {"shadow": "board", "closing": "board", "is_closing": "board value"},
    "twos": {"distances": "board", "divisor": "board", "rests": "size modulus", "even_twos": "size",
             "sort_of": "board", "loose_match": "board", "turning_match": "board", "is_loose_match": "board value"},
}

# For each class its arguments, its attributes, and its methods with their arguments.
CLASSES = {
    "boards": {"Board": ("values size signs", "many size signs",
                         {"sign": "bag", "line": "", "__call__": "bag", "__eq__": "other", "__len__": ""})},
    "dials": {"Dials": ("rounds marks", "rounds marks many", {"sum_of": "bag", "__eq__": "other"})},
}
