"""Treewithin: small trees led through a great one."""
