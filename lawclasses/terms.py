"""Terms: trees over operations. Readable texts nest 40 deep at most, so recursion may walk them."""

from lawclasses.words import is_upper_name


# arities: for each operation's name how many arguments it takes.
def is_term(tree, arities):
    if isinstance(tree, tuple):
        return is_upper_name(tree) or arities.get(tree) == 0
    if len(tree) == 0 or not isinstance(tree[0], tuple):
        return False
    arity = arities.get(tree[0], 0)
    # An operation without arguments stands without parentheses.
    if arity == 0 or len(tree) != arity + 1:
        return False
    return all([is_term(part, arities) for part in tree[1:]])


def gather_variables(term, found):
    if is_upper_name(term):
        found[term] = True
    elif isinstance(term, list):
        for part in term[1:]:
            gather_variables(part, found)


# In the order in which they stand first.
def variables_of(terms):
    found = {}
    for term in terms:
        gather_variables(term, found)
    return list(found)


def row_count(size, places):
    count = 1
    for place in range(places):
        count = count * size
    return count


# All rows in their order, told by columns: for each place, what the rows have there.
def columns_of_rows(size, places):
    count = row_count(size, places)
    columns = []
    for place in range(places):
        step = row_count(size, places - place - 1)
        columns.append([(row // step) % size for row in range(count)])
    return columns


def picked(values, places):
    return [values[place] for place in places]


# What an operation gives at each of count rows; results are its values in the order of rows.
def results_at(results, size, columns, count):
    if len(columns) == 0:
        return [results[0]] * count
    if len(columns) == 1:
        return [results[one] for one in columns[0]]
    return [results[one * size + other] for one, other in zip(columns[0], columns[1])]


# A term's value at each of count rows at once: looking at whole columns is much faster than row by row.
# columns: for each variable its column.
def term_column(term, instance, columns, count):
    if is_upper_name(term):
        return columns[term]
    name = term if isinstance(term, tuple) else term[0]
    parts = [] if isinstance(term, tuple) else term[1:]
    arguments = [term_column(part, instance, columns, count) for part in parts]
    return results_at(instance.results[name], instance.size, arguments, count)
