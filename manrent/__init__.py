"""Manrent: land held of lords of lords, and whose side each man is on."""
