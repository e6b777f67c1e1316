"""Clients: several logs of insertions, each in its own order, that are merged into one list."""

from indexlogs.checks import is_integer
from indexlogs.errors import Impossible, NoClients, NoNumber, TooMany
from indexlogs.orders import order_of_names, reason
from indexlogs.records import Inserted, Record
from indexlogs.replay import is_log, sign_of

MOST_CLIENTS = 5
MOST_LENGTH = 20
MOST_STATES = 3000


def together(clients):
    """Give the records of all clients as one list."""
    return [record for client in clients for record in client]


def is_client(thing):
    """Tell whether any object is a log of Inserted; the empty log is one, too."""
    return is_log(thing) and sign_of(thing) in (Inserted.SIGN, Record.SIGN)


def check_clients(clients):
    """Raise NoClients unless the clients are logs of Inserted that make one log together."""
    if not 1 <= len(clients) <= MOST_CLIENTS:
        raise NoClients("not 1 to 5 clients")
    if not all([is_client(client) for client in clients]):
        raise NoClients("a client is no log of Inserted")
    if not is_log(together(clients)):
        raise NoClients("more than 40 records, or an item occurs twice")


def check_merge(clients, length):
    """Raise the errors of the functions that merge clients into a list of the length."""
    check_clients(clients)
    if not is_integer(length) or not 0 <= length <= MOST_LENGTH:
        raise NoNumber("not a length from 0 to 20")


def next_client(clients, done, length):
    """Give the least client whose next record can be applied to a list of the length, or None."""
    for number, client in enumerate(clients):
        if done[number] < len(client) and client[done[number]].slot <= length:
            return number
    return None


def merged(clients, length):
    """Give the client numbers of a merge that goes on as long as it can, each as low as possible."""
    done = [0 for _ in clients]
    numbers = []
    number = next_client(clients, done, length)
    while number is not None:
        done[number] += 1
        numbers.append(number)
        number = next_client(clients, done, length + len(numbers))
    return numbers


def rest_of(clients, numbers):
    """Give for each client the list of the items that the merge has not reached."""
    return [[record.item for record in client[numbers.count(number):]] for number, client in enumerate(clients)]


def can_merge(*clients, length=0):
    """Tell whether all records can be applied."""
    check_merge(clients, length)
    return len(merged(clients, length)) == len(together(clients))


def left_over(*clients, length=0):
    """Give for each client the list of the items whose records can never be applied."""
    check_merge(clients, length)
    return rest_of(clients, merged(clients, length))


def least_merge(*clients, length=0):
    """Give the least list of client numbers in which all records can be applied."""
    check_merge(clients, length)
    numbers = merged(clients, length)
    if len(numbers) < len(together(clients)):
        raise Impossible(rest_of(clients, numbers))
    return numbers


def counts_after(clients, counts, length):
    """Give the number of ways to each state after one more record, which meets a list of the length."""
    after = {}
    for state, many in counts.items():
        for number, client in enumerate(clients):
            done = state[number]
            if done < len(client) and client[done].slot <= length:
                reached = state[:number] + (done + 1,) + state[number + 1:]
                after[reached] = after.get(reached, 0) + many
    return after


def merge_count(*clients, length=0):
    """Give how many lists of client numbers there are in which all records can be applied."""
    check_merge(clients, length)
    states_at_most = 1
    for client in clients:
        states_at_most *= len(client) + 1
    if states_at_most > MOST_STATES:
        raise TooMany(states_at_most)
    # A state tells how many records of each client have been applied.
    counts = {tuple([0 for _ in clients]): 1}
    for applied in range(len(together(clients))):
        counts = counts_after(clients, counts, length + applied)
    return sum(counts.values())


def swapped(clients, order):
    """Give the pairs of items of one client that stand in the order the other way round."""
    found = []
    for client in clients:
        names = [record.item for record in client]
        for place, early in enumerate(names):
            found.extend([("order", early, late) for late in names[place + 1:] if late in order[:order.index(early)]])
    return found


def disagreement(items, *clients):
    """Give None if the clients, each in its own order, can have led to the items, else a reason why not."""
    check_clients(clients)
    log = together(clients)
    why = reason(log, items)
    if why is not None:
        return why
    found = swapped(clients, order_of_names(log, items))
    return min(found) if len(found) > 0 else None
