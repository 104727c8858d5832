"""The world: hosts with addresses, and a network that loses, doubles and delays their messages."""

from zoneward.errors import ZonewardError
from zoneward.messages import Message, write_message
from zoneward.reading import read_message
from zoneward.servers import Secondary

# After how many seconds a message arrives, by its fate; a fate that is none of these is like the usual one.
DELAYS = {0: (1,), 1: (4,), 2: (), 3: (1, 3)}
USUAL_FATE = 0


class World:
    """Hosts, the messages on their way between them, and a time."""

    def __init__(self, fates):
        self.now = 0
        self.sent = 0
        self.replies = []
        self.fates = list(fates)
        self.authorities = {}
        self.resolvers = {}
        # The messages by the time at which they arrive, each list in the order in which they were sent.
        self.arrivals = {}

    def add_authority(self, address, authority):
        """Add an authority as a host."""
        self.authorities[address] = authority

    def add_resolver(self, address, resolver):
        """Add a resolver as a host."""
        self.resolvers[address] = resolver

    def ask(self, address, client, name, kind):
        """Let a client ask a resolver."""
        query = Message(0, (name, kind), recursion=True)
        self.carry_out(address, self.resolvers[address].ask(self.now, client, query))

    def edit(self, address, origin, acts):
        """Edit the zone of a primary of an authority. Raise InvalidZone if the result is not valid."""
        self.authorities[address].holder_of(origin).edit(acts)

    def pass_second(self):
        """Let one second pass."""
        self.now += 1
        arriving = self.arrivals.pop(self.now, [])
        for source, target, data in arriving:
            self.deliver(source, target, data)
        for address in sorted([*self.authorities, *self.resolvers]):
            self.do_due(address)

    def run(self, seconds):
        """Let some seconds pass."""
        for _ in range(seconds):
            self.pass_second()

    def send(self, source, target, message):
        """Send a message on its way, as its fate tells."""
        fate = self.fates[self.sent] if self.sent < len(self.fates) else USUAL_FATE
        data = write_message(message)
        for delay in DELAYS.get(fate, DELAYS[USUAL_FATE]):
            self.arrivals.setdefault(self.now + delay, []).append((source, target, data))
        self.sent += 1

    def deliver(self, source, target, data):
        """Give the host of an address the message of a byte list, unless there is no such host or message."""
        try:
            message = read_message(data)
        except ZonewardError:
            return
        if target in self.resolvers:
            self.carry_out(target, self.resolvers[target].receive(self.now, source, message))
        elif target in self.authorities:
            self.deliver_to_authority(source, target, message)

    def deliver_to_authority(self, source, target, message):
        """Let an authority answer a query, or its secondary take a response."""
        authority = self.authorities[target]
        if not message.response:
            self.send(target, source, authority.answer(self.now, message))
            return
        name, _ = message.question
        holder = authority.holder_of(name)
        if isinstance(holder, Secondary):
            holder.receive(self.now, source, message)

    def do_due(self, address):
        """Let the host of an address do what is due."""
        if address in self.resolvers:
            self.carry_out(address, self.resolvers[address].due(self.now))
            return
        for holder in self.authorities[address].holders:
            if isinstance(holder, Secondary):
                query = holder.due(self.now)
                if query is not None:
                    self.send(address, holder.master, query)

    def carry_out(self, address, actions):
        """Send the queries and the responses to clients of a resolver."""
        for word, target, message in actions:
            if word == "send":
                self.send(address, target, message)
            else:
                self.replies.append((self.now, target, message))
